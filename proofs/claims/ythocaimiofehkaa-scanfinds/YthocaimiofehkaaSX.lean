/- Scan: spots, what refers, the example, and the walk of ScanNone: texts put together. -/
import Derived.Test.YthocaimiofehkaaN2
import Derived.Test.YthocaimiofehkaaB6
import Derived.Test.YthocaimiofehkaaN3b
import Derived.Test.YthocaimiofehkaaN4
import Derived.Test.YthocaimiofehkaaN5
import Derived.Test.YthocaimiofehkaaL3
/- Spots as mathematics; the contracts of bytes.Equal, bytes.HasPrefix and scan.Spots. -/
namespace Go.Proofs.Ythocaimiofehkaa
open Go.RowKit BaseMath WireMath NameMath

abbrev vn (n : Nat) : Value := .int .i64 (n : Int)
def preB (x y : List By) : Bool := decide (x.take y.length = y)
def spotF (p t : List By) (i : Nat) : Bool := preB (p.drop i) t
def spotsTo (p t : List By) (i : Nat) : List Nat := (List.range i).filter (spotF p t)
theorem spotsTo_yes {p t : List By} {i : Nat} (h : spotF p t i = true) : spotsTo p t (i + 1) = spotsTo p t i ++ [i] := by
  unfold spotsTo; rw [List.range_succ, List.filter_append]; simp [h]
theorem spotsTo_no {p t : List By} {i : Nat} (h : spotF p t i = false) : spotsTo p t (i + 1) = spotsTo p t i := by
  unfold spotsTo; rw [List.range_succ, List.filter_append]; simp [h]
theorem spotsTo_len (p t : List By) (i : Nat) : (spotsTo p t i).length ≤ i := by
  unfold spotsTo; have := List.length_filter_le (spotF p t) (List.range i); rwa [List.length_range] at this
def spotsB (p s : List By) : List Nat := if pathB s then spotsTo p (s.take 32) p.length else []
set_option maxHeartbeats 1000000 in
set_option maxRecDepth 100000 in
theorem equal_any (A B : Option Addr) (ca cb : Nat) (a b : List By) (w : World) (hA : SrcIs w A a) (hB : SrcIs w B b) :
    Calls Try.prog 40 #[.slice A a.length ca, .slice B b.length cb] w fun e w' => e = .returned (.bool (decide (a = b))) ∧ w = w' := by
  have h1 := run_text_src (cap := ca) hA; have h2 := run_text_src (cap := cb) hB
  clear hA hB
  go_enter Try.func40, Try.ntmps40
  go_wp2_with fail
  go_ret
  exact ⟨by rw [list_beq]; rfl, rfl⟩
theorem SrcIs.take {w : World} {A : Option Addr} {p : List By} (h : SrcIs w A p) (k : Nat) : SrcIs w A (p.take k) := fun h0 => by
  obtain ⟨b, o, rfl, hc⟩ := h (by rw [List.length_take] at h0; omega)
  exact ⟨b, o, rfl, hc.take k⟩
set_option maxHeartbeats 1000000 in
set_option maxRecDepth 100000 in
theorem prefix_any (A B : Option Addr) (ca cb n m : Nat) (x y : List By) (hn : x.length = n) (hm : y.length = m) (hca : n ≤ ca) (w : World) (hA : SrcIs w A x) (hB : SrcIs w B y) :
    Calls Try.prog 25 #[.slice A n ca, .slice B m cb] w fun e w' => e = .returned (.bool (preB x y)) ∧ w = w' := by
  by_cases h : m ≤ n
  · have h' : (m : Int) ≤ n := by omega
    have hmc : (m : Int) ≤ ca := by omega
    have hc := equal_any A B ca cb (x.take m) y w (hA.take m) hB
    rw [List.length_take, hn, hm, Nat.min_eq_left h] at hc
    have HC := Lib.hid hc
    have HD : Hid (preB x y = decide (x.take m = y)) := by show _ = _; unfold preB; rw [hm]
    clear hc hA hB
    go_enter Try.func25, Try.ntmps25
    go_wp2_with fail
    refine HC.out.mono ?_
    rintro e w1 ⟨rfl, rfl⟩
    rw [← HD.out]
    go_wp2_with fail
    go_ret
    exact ⟨rfl, rfl⟩
  · have h' : ¬ (m : Int) ≤ n := by omega
    have hD : preB x y = false := by
      unfold preB; rw [decide_eq_false]; intro e
      have := congrArg List.length e
      rw [List.length_take] at this; omega
    have HD := Lib.hid hD; clear hD hA hB
    go_enter Try.func25, Try.ntmps25
    go_wp2_with fail
    go_ret
    exact ⟨by rw [HD.out]; rfl, rfl⟩
set_option maxHeartbeats 2000000 in
set_option maxRecDepth 100000 in
theorem spots_any (A : Option Addr) (ca : Nat) (p : List By) (hl : p.length ≤ 100000) (hca : p.length ≤ ca) (s : List By) (w : World) (hA : SrcIs w A p) :
    Calls Try.prog 13 #[.slice A p.length ca, vs s] w fun e w' => ∃ v, e = .returned v ∧ RowRel w 3 ((spotsB p s).map vn) v w' := by
  have HA := Lib.hid hA; clear hA
  cases hp : pathB s with
  | false =>
    have HE : Hid (spotsB p s = []) := by show _ = _; unfold spotsB; rw [hp]; rfl
    have HP := Lib.hid hp; clear hp
    go_enter Try.func13, Try.ntmps13
    go_wp2_with fail
    refine (split_no s HP.out w).mono ?_
    rintro e w1 ⟨rfl, hb⟩
    have HB := Lib.hid hb; clear hb
    go_wp2_with fail
    go_ret
    refine ⟨_, rfl, ?_⟩
    rw [HE.out]
    exact ⟨HB.out, World.ownsRow_nil _ _ _ _⟩
  | true =>
    have HE : Hid (spotsB p s = spotsTo p (s.take 32) p.length) := by show _ = _; unfold spotsB; rw [hp]; rfl
    have HP := Lib.hid hp; clear hp
    go_enter Try.func13, Try.ntmps13
    go_wp2_with fail
    refine (split_yes s HP.out w).mono ?_
    rintro e w1 ⟨rfl, hb1⟩
    have HB1 := Lib.hid hb1; clear hb1
    generalize s.take 32 = t at *
    generalize s.drop 33 = nm at *
    obtain ⟨c2, w2, hcv, hs2, hb2⟩ := str_bytes t w1
    have HB2 : Hid (Below w.heap.size w w2) := HB1.out.trans (hb2.mono HB1.out.size)
    have HS2 := Lib.hid hs2
    clear hs2 hb2 HB1
    go_wp2_with fail
    generalize w1.heap.size = g at *
    clear hcv
    go_loopw [8, 23] (fun v vi wr => ∃ i : Nat, i ≤ p.length ∧ vi = .int .i64 i ∧ Hid (RowRel w2 3 ((spotsTo p t i).map vn) v wr)) (fun _ vi _ => p.length - (intOf vi).toNat)
    case atStart => exact ⟨0, Nat.zero_le _, rfl, RowRel.none _ _⟩
    case round =>
      obtain ⟨i, hi, rfl, HR⟩ := hrel
      rename World => W0
      by_cases hlt : i < p.length
      · have HB0 : Hid (Below w.heap.size w W0) := HB2.out.trans (HR.out.below.mono HB2.out.size)
        obtain ⟨b, o, rfl, hc⟩ := (HA.out.below HB0.out) (by omega)
        have HX : Hid (SrcIs W0 (some ⟨b, o + i, none⟩) (p.drop i)) := bytes_src (hc.drop i)
        have HPF : Hid (Calls Try.prog 25 #[.slice (some ⟨b, o + i, none⟩) (p.length - i) (ca - i), .slice (some ⟨g, 0, none⟩) t.length c2] W0 fun e w' => e = .returned (.bool (spotF p t i)) ∧ W0 = w') :=
          prefix_any _ _ (ca - i) c2 (p.length - i) t.length (p.drop i) t (by rw [List.length_drop]) rfl (by omega) W0 HX.out (HS2.out.below HR.out.below)
        have hci : i < ca := by omega
        clear hc HX
        go_wp2_with fail
        refine HPF.out.mono ?_
        rintro e w3 ⟨rfl, rfl⟩
        have hsl : ((spotsTo p t i).map vn).length ≤ 100000 := by rw [List.length_map]; have := spotsTo_len p t i; omega
        cases hf : spotF p t i with
        | true =>
          have HN := Lib.hid (spotsTo_yes hf)
          clear hf HPF
          go_wp2_with (refine wpList_push Try.underlying30 info3 rfl (by decide) rfl (.tmp 31) (.tmp 33) rfl HR.out rfl [vn i] 1 rfl rfl rfl (by omega) ?_)
          intro v' w' hr
          have HR2 : Hid (RowRel w2 3 ((spotsTo p t (i + 1)).map vn) v' w') := by show RowRel _ _ _ _ _; rw [HN.out, List.map_append]; exact hr
          clear hr HR HN
          go_wp2_with fail
          go_roundw
          case rel => exact ⟨i + 1, by omega, by go_num, HR2.out⟩
          case measure => simp [intOf]; omega
        | false =>
          have HR2 : Hid (RowRel w2 3 ((spotsTo p t (i + 1)).map vn) u8 W0) := by show RowRel _ _ _ _ _; rw [spotsTo_no hf]; exact HR.out
          clear hf HPF HR
          go_wp2_with fail
          go_roundw
          case rel => exact ⟨i + 1, by omega, by go_num, HR2.out⟩
          case measure => simp [intOf]; omega
      · obtain rfl : i = p.length := by omega
        have hr := HR.out
        rw [← HE.out] at hr
        have HR2 := Lib.hid (hr.base HB2.out)
        clear hr HR
        go_wp2_with fail
        go_ret
        exact ⟨_, rfl, HR2.out⟩
end Go.Proofs.Ythocaimiofehkaa

/- The document's example of scan: a path's letters, reckoned; where they stand behind two bytes. -/
namespace Go.Proofs.Ythocaimiofehkaa
open Go.RowKit BaseMath WireMath NameMath

def P1 : List By := [118, 121, 109, 109, 118, 48, 106, 113, 49, 49, 108, 103, 113, 49, 106, 53, 120, 110, 107, 122, 109, 55, 100, 48, 110, 57, 106, 104, 102, 113, 118, 120, 45, 110]
theorem path_one : pathOf [110] [1] [] = P1 := by decide +kernel
theorem spots_one : spotsB ([97, 98] ++ P1) P1 = [2] := by decide +kernel
end Go.Proofs.Ythocaimiofehkaa

/- The contracts of Contains and Index where there are no bytes; of refers, where there is no spot. -/
namespace Go.Proofs.Ythocaimiofehkaa
open Go.RowKit BaseMath WireMath NameMath

set_option maxHeartbeats 1000000 in
set_option maxRecDepth 100000 in
theorem index_none (B : Option Addr) (cb : Nat) (w : World) :
    Calls Try.prog 53 #[.slice none 0 0, .slice B 32 cb] w fun e w' => e = .returned (.int .i64 (-1)) ∧ w = w' := by
  go_enter Try.func53, Try.ntmps53
  go_wp2_with fail
  go_ret
  exact ⟨rfl, rfl⟩
theorem contains_none (B : Option Addr) (cb : Nat) (w : World) :
    Calls Try.prog 42 #[.slice none 0 0, .slice B 32 cb] w fun e w' => e = .returned (.bool false) ∧ w = w' := by
  go_enter Try.func42, Try.ntmps42
  go_wp2_with fail
  refine (index_none B cb w).mono ?_
  rintro e w1 ⟨rfl, rfl⟩
  go_wp2_with fail
  go_ret
  exact ⟨rfl, rfl⟩
theorem refers_no (A : Option Addr) (n ca : Nat) (s : List By) (hp : pathB s = false) (w : World) :
    Calls Try.prog 27 #[.slice A n ca, vs s] w fun e w' => e = .returned (.bool false) ∧ Below w.heap.size w w' := by
  have HP := Lib.hid hp; clear hp
  go_enter Try.func27, Try.ntmps27
  go_wp2_with fail
  refine (split_no s HP.out w).mono ?_
  rintro e w1 ⟨rfl, hb⟩
  have HB := Lib.hid hb; clear hb
  go_wp2_with fail
  go_ret
  exact ⟨rfl, HB.out⟩
theorem path_take32 {s : List By} (h : pathB s = true) : (s.take 32).length = 32 := by
  have := (path_parts h).1
  rw [List.length_take]; omega
set_option maxHeartbeats 1000000 in
theorem refers_nil (s : List By) (hp : pathB s = true) (w : World) :
    Calls Try.prog 27 #[.slice none 0 0, vs s] w fun e w' => e = .returned (.bool false) ∧ Below w.heap.size w w' := by
  have HP := Lib.hid hp; have HL := Lib.hid (path_take32 hp); clear hp
  go_enter Try.func27, Try.ntmps27
  go_wp2_with fail
  refine (split_yes s HP.out w).mono ?_
  rintro e w1 ⟨rfl, hb⟩
  have HB := Lib.hid hb; clear hb
  generalize s.take 32 = t at *
  generalize s.drop 33 = nm at *
  obtain ⟨c2, w2, hcv, -, hb2⟩ := str_bytes t w1
  have HB2 : Hid (Below w.heap.size w w2) := HB.out.trans (hb2.mono HB.out.size)
  rw [HL.out] at hcv
  clear hb2
  go_wp2_with fail
  refine (contains_none _ _ w2).mono ?_
  rintro e w3 ⟨rfl, rfl⟩
  go_wp2_with fail
  go_ret
  exact ⟨rfl, HB2.out⟩
end Go.Proofs.Ythocaimiofehkaa

/- Rows of numbers; the contracts of the reference's Ints and Spots. -/
namespace Go.Proofs.Ythocaimiofehkaa
open Go.RowKit BaseMath WireMath NameMath

def IntsIs (w : World) (A : Option Addr) (l : List Nat) : Prop := 0 < l.length → ∃ b o, A = some ⟨b, o, none⟩ ∧ ∀ k (h : k < l.length), w.cell? ⟨b, o + k, none⟩ = some (vn l[k])
theorem IntsIs.below {w w' : World} {A : Option Addr} {l : List Nat} (h : IntsIs w A l) (hb : Below w.heap.size w w') : IntsIs w' A l := fun h0 => by
  obtain ⟨b, o, rfl, hc⟩ := h h0
  exact ⟨b, o, rfl, fun k hk => by rw [hb.cell (p := ⟨b, o + k, none⟩) (block_of_cell (hc k hk))]; exact hc k hk⟩
theorem row_ints {w wr : World} {v : Value} {l : List Nat} (r : RowRel w 3 (l.map vn) v wr) : ∃ A c, v = .slice A l.length c ∧ IntsIs wr A l := by
  have h := r.own
  rw [List.length_map] at h
  rcases h.2 with ⟨hv, h0⟩ | ⟨g, cap, cur, hv, hg, hc, hn, _, hs, ht⟩
  · have : l = [] := List.eq_nil_of_length_eq_zero (by omega)
    subst this
    exact ⟨none, 0, hv, fun h => absurd h (by simp)⟩
  · rw [Nat.mul_one] at ht
    have hb : Blk wr g 3 (l.map vn ++ cur.toList.drop l.length) := by rw [← ht, List.take_append_drop]; exact hc
    refine ⟨some ⟨g, 0, none⟩, cap, by rw [hv], fun _ => ⟨g, 0, rfl, fun k hk => ?_⟩⟩
    rw [Nat.zero_add, hb.cell, List.getElem?_append_left (by simpa using hk)]; simp [hk]
set_option maxHeartbeats 1000000 in
set_option maxRecDepth 100000 in
theorem ints_same (A B : Option Addr) (ca cb : Nat) (l : List Nat) (hl : l.length ≤ 100000) (w : World) (hA : IntsIs w A l) (hB : IntsIs w B l) :
    Calls Try.prog 12 #[.slice A l.length ca, .slice B l.length cb] w fun e w' => e = .returned (.bool true) ∧ ∃ q, w' = w.drewN q := by
  have HA := Lib.hid hA; have HB := Lib.hid hB
  clear hA hB
  go_enter Try.func12, Try.ntmps12
  go_wp2_with fail
  go_loopw [5] (fun vi wr => ∃ k : Nat, k ≤ l.length ∧ vi = .int .i64 k ∧ Hid (∃ q, wr = w.drewN q)) (fun vi _ => l.length - (intOf vi).toNat)
  case atStart => exact ⟨0, Nat.zero_le _, rfl, 0, rfl⟩
  case round =>
    obtain ⟨k, hk, rfl, HR⟩ := hrel
    rename World => W0
    by_cases hlt : k < l.length
    · obtain ⟨a, oa, rfl, ha⟩ := HA.out (by omega)
      obtain ⟨b, ob, rfl, hb⟩ := HB.out (by omega)
      obtain ⟨q, rfl⟩ := HR.out
      have c1 := ha k hlt
      have c2 := hb k hlt
      generalize l[k] = x at *
      clear ha hb HA HB HR
      go_wp2_with fail
      go_quiet (fail)
      go_wp2_with fail
      go_roundw
      case rel => exact ⟨k + 1, by omega, by go_num, _, rfl⟩
      case measure => simp [intOf]; omega
    · obtain rfl : k = l.length := by omega
      go_wp2
      go_ret
      exact ⟨rfl, HR.out⟩
theorem spots_far {p t : List By} : ∀ i, p.length + 1 - t.length ≤ i → i ≤ p.length → spotsTo p t i = spotsTo p t (p.length + 1 - t.length) := by
  intro i h1 h2
  induction i with
  | zero => rw [show p.length + 1 - t.length = 0 by omega]
  | succ i ih =>
    by_cases e : p.length + 1 - t.length = i + 1
    · rw [e]
    · rw [← ih (by omega) (by omega)]
      refine spotsTo_no ?_
      unfold spotF preB
      rw [decide_eq_false]
      intro h
      have := congrArg List.length h
      rw [List.length_take, List.length_drop] at this
      omega
theorem spots_all {p t : List By} (h0 : 0 < t.length) : spotsTo p t (p.length + 1 - t.length) = spotsTo p t p.length := (spots_far _ (by omega) (Nat.le_refl _)).symm
set_option maxHeartbeats 2000000 in
set_option maxRecDepth 100000 in
theorem rspots_any (A : Option Addr) (ca : Nat) (p : List By) (hl : p.length ≤ 100000) (hca : p.length ≤ ca) (s : List By) (w : World) (hA : SrcIs w A p) :
    Calls Try.prog 14 #[.slice A p.length ca, vs s] w fun e w' => ∃ v, e = .returned v ∧ RowRel w 3 ((spotsB p s).map vn) v w' := by
  have HA := Lib.hid hA; clear hA
  cases hp : pathB s with
  | false =>
    have HE : Hid (spotsB p s = []) := by show _ = _; unfold spotsB; rw [hp]; rfl
    have HP := Lib.hid hp; clear hp
    go_enter Try.func14, Try.ntmps14
    go_wp2_with fail
    refine (rsplit_no s HP.out w).mono ?_
    rintro e w1 ⟨rfl, hb⟩
    have HB := Lib.hid hb; clear hb
    go_wp2_with fail
    go_loopw [8] (fun v wr => v = .slice none 0 0 ∧ wr = w1) (fun _ _ => 0)
    case atStart => exact ⟨rfl, rfl⟩
    case round =>
      obtain ⟨rfl, rfl⟩ := hrel
      go_wp2_with fail
      go_ret
      refine ⟨_, rfl, ?_⟩
      rw [HE.out]
      exact ⟨HB.out, World.ownsRow_nil _ _ _ _⟩
  | true =>
    have HL : Hid ((s.take 32).length = 32) := by have := (path_parts hp).1; show _ = _; rw [List.length_take]; omega
    have HE : Hid (spotsB p s = spotsTo p (s.take 32) (p.length + 1 - 32)) := by
      show _ = _; unfold spotsB; rw [hp]
      have := spots_all (p := p) (t := s.take 32) (by rw [HL.out]; decide)
      rw [HL.out] at this
      rw [this]; rfl
    have HP := Lib.hid hp; clear hp
    go_enter Try.func14, Try.ntmps14
    go_wp2_with fail
    refine (rsplit_yes s HP.out w).mono ?_
    rintro e w1 ⟨rfl, hb1⟩
    have HB1 := Lib.hid hb1; clear hb1
    generalize s.take 32 = t at *
    generalize s.drop 33 = nm at *
    go_wp2_with fail
    go_loopw [8, 9] (fun v vi wr => ∃ i : Nat, i ≤ p.length + 1 - 32 ∧ vi = .int .i64 i ∧ Hid (RowRel w1 3 ((spotsTo p t i).map vn) v wr)) (fun _ vi _ => p.length - (intOf vi).toNat)
    case atStart => exact ⟨0, Nat.zero_le _, rfl, RowRel.none _ _⟩
    case round =>
      obtain ⟨i, hi, rfl, HR⟩ := hrel
      rename World => W0
      have htl : t.length ≤ 32 := by have := HL.out; omega
      by_cases hlt : i + t.length ≤ p.length
      · have HB0 : Hid (Below w.heap.size w W0) := HB1.out.trans (HR.out.below.mono HB1.out.size)
        obtain ⟨b, o, rfl, hc⟩ := (HA.out.below HB0.out) (by have := HL.out; omega)
        have hcv : (convert 26 9 (.slice (some ⟨b, o + i, none⟩) t.length (ca - i))).run Try.prog W0 = .ok (.string ⟨((p.drop i).take t.length).toArray⟩) W0 :=
          run_text ((hc.drop i).take t.length) (by rw [List.length_take, List.length_drop]; omega)
        have hci : i < ca := by have := HL.out; omega
        have hlt' : (i : Int) + t.length ≤ p.length := by omega
        have hle' : (i : Int) + t.length ≤ ca := by omega
        have HX : Hid (spotF p t i = decide ((p.drop i).take t.length = t)) := rfl
        have hsl : ((spotsTo p t i).map vn).length ≤ 100000 := by rw [List.length_map]; have := spotsTo_len p t i; omega
        have hip : i < p.length := by have := HL.out; omega
        have hin : i + 1 ≤ p.length + 1 - 32 := by have := HL.out; omega
        have HIN := Lib.hid hin
        clear hc hi hin
        generalize (p.drop i).take t.length = x at *
        cases hf : spotF p t i with
        | true =>
          have hx : (x == t) = true := by rw [list_beq, ← HX.out]; exact hf
          have HN := Lib.hid (spotsTo_yes hf)
          clear hf HX
          go_wp2_with (refine wpList_push Try.underlying30 info3 rfl (by decide) rfl (.tmp 38) (.tmp 40) rfl HR.out rfl [vn i] 1 rfl rfl rfl (by omega) ?_)
          intro v' w' hr
          have HR2 : Hid (RowRel w1 3 ((spotsTo p t (i + 1)).map vn) v' w') := by show RowRel _ _ _ _ _; rw [HN.out, List.map_append]; exact hr
          clear hr HR HN hcv
          go_wp2_with fail
          go_roundw
          case rel => exact ⟨i + 1, HIN.out, by go_num, HR2.out⟩
          case measure => simp [intOf]; omega
        | false =>
          have hx : (x == t) = false := by rw [list_beq, ← HX.out]; exact hf
          have HR2 : Hid (RowRel w1 3 ((spotsTo p t (i + 1)).map vn) u8 W0) := by show RowRel _ _ _ _ _; rw [spotsTo_no hf]; exact HR.out
          clear hf HX HR
          go_wp2_with fail
          go_roundw
          case rel => exact ⟨i + 1, HIN.out, by go_num, HR2.out⟩
          case measure => simp [intOf]; omega
      · have hlt' : ¬ (i : Int) + t.length ≤ p.length := by omega
        have hi' : i = p.length + 1 - 32 := by have := HL.out; omega
        have hr := HR.out
        rw [hi', ← HE.out] at hr
        have HR2 := Lib.hid (hr.base HB1.out)
        have hi2 : i ≤ 100000 := by omega
        clear hr HR hi' hi HE
        go_wp2_with fail
        go_ret
        exact ⟨_, rfl, HR2.out⟩
end Go.Proofs.Ythocaimiofehkaa

/- The contracts of Sort and Compact where there is nothing; of Find, where nothing refers. -/
namespace Go.Proofs.Ythocaimiofehkaa
open Go.RowKit BaseMath WireMath NameMath

set_option maxHeartbeats 1000000 in
set_option maxRecDepth 100000 in
theorem len64_zero (w : World) : Calls Try.prog 64 #[.int .u64 0] w fun e w' => e = .returned (.int .i64 0) ∧ w = w' := by
  go_enter Try.func64, Try.ntmps64
  go_wp2_with fail
  go_ret
  refine ⟨ret_int (b := 0) ?_, rfl⟩
  decide +kernel
theorem len_zero (w : World) : Calls Try.prog 44 #[.int .u64 0] w fun e w' => e = .returned (.int .i64 0) ∧ w = w' := by
  go_enter Try.func44, Try.ntmps44
  go_wp2_with fail
  refine (len64_zero w).mono ?_
  rintro e w1 ⟨rfl, rfl⟩
  go_wp2_with fail
  go_ret
  exact ⟨rfl, rfl⟩
set_option maxHeartbeats 1000000 in
set_option maxRecDepth 100000 in
theorem insertion_none (w : World) : Calls Try.prog 54 #[.slice none 0 0, .int .i64 0, .int .i64 0] w fun e w' => e = .returned (.tuple #[]) ∧ w = w' := by
  go_enter Try.func54, Try.ntmps54
  go_wp2_with fail
  go_loopw [6] (fun vi wr => vi = .int .i64 1 ∧ w = wr) (fun _ _ => 0)
  case atStart => exact ⟨rfl, rfl⟩
  case round =>
    obtain ⟨rfl, rfl⟩ := hrel
    go_wp2_with fail
    go_end0
    exact ⟨rfl, rfl⟩
set_option maxHeartbeats 1000000 in
set_option maxRecDepth 100000 in
theorem pdq_none (w : World) : Calls Try.prog 43 #[.slice none 0 0, .int .i64 0, .int .i64 0, .int .i64 0] w fun e w' => e = .returned (.tuple #[]) ∧ w = w' := by
  go_enter Try.func43, Try.ntmps43
  go_wp2_with fail
  go_loopw [1, 2] (fun va vb' wr => va = .int .i64 0 ∧ vb' = .int .i64 0 ∧ w = wr) (fun _ _ _ => 0)
  case atStart => exact ⟨rfl, rfl, rfl⟩
  case round =>
    obtain ⟨rfl, rfl, rfl⟩ := hrel
    go_wp2_with fail
    refine (insertion_none _).mono ?_
    rintro e w1 ⟨rfl, rfl⟩
    go_wp2_with fail
    refine bodyPost_ret (results_none rfl _ _ _) rfl ?_
    exact ⟨rfl, rfl⟩
theorem sort_none (w : World) : Calls Try.prog 28 #[.slice none 0 0] w fun e w' => e = .returned (.tuple #[]) ∧ w = w' := by
  go_enter Try.func28, Try.ntmps28
  go_wp2_with fail
  refine (len_zero w).mono ?_
  rintro e w1 ⟨rfl, rfl⟩
  go_wp2_with fail
  refine (pdq_none w).mono ?_
  rintro e w1 ⟨rfl, rfl⟩
  go_wp2_with fail
  go_end0
  exact ⟨rfl, rfl⟩
theorem compact_none (w : World) : Calls Try.prog 29 #[.slice none 0 0] w fun e w' => e = .returned (.slice none 0 0) ∧ w = w' := by
  go_enter Try.func29, Try.ntmps29
  go_wp2_with fail
  go_ret
  exact ⟨rfl, rfl⟩
set_option maxHeartbeats 1000000 in
set_option maxRecDepth 100000 in
theorem find_none (A : Option Addr) (n ca : Nat) (B : Option Addr) (cb : Nat) (l : List (List By)) (hl : l.length ≤ 100000) (w : World) (hB : StrsIs w B l)
    (hC : ∀ k (h : k < l.length) (W : World), Calls Try.prog 27 #[.slice A n ca, vs l[k]] W fun e w' => e = .returned (.bool false) ∧ Below W.heap.size W w') :
    Calls Try.prog 16 #[.slice A n ca, .slice B l.length cb] w fun e w' => e = .returned (.slice none 0 0) ∧ Below w.heap.size w w' := by
  have HB := Lib.hid hB; have HC := Lib.hid hC
  clear hB hC
  go_enter Try.func16, Try.ntmps16
  go_wp2_with fail
  go_loopw [5, 10] (fun v vi wr => ∃ i : Nat, i ≤ l.length ∧ vi = .int .i64 i ∧ v = .slice none 0 0 ∧ Hid (Below w.heap.size w wr)) (fun _ vi _ => l.length - (intOf vi).toNat)
  case atStart => exact ⟨0, Nat.zero_le _, rfl, rfl, Below.refl _ _⟩
  case round =>
    obtain ⟨i, hi, rfl, rfl, HW⟩ := hrel
    rename World => W0
    by_cases hlt : i < l.length
    · obtain ⟨b, o, rfl, hc⟩ := (HB.out.below HW.out HB.out.lt) (by omega)
      have c1 := hc i hlt
      have HX : Hid (∀ W : World, Calls Try.prog 27 #[.slice A n ca, vs l[i]] W fun e w' => e = .returned (.bool false) ∧ Below W.heap.size W w') := HC.out i hlt
      generalize l[i] = x at *
      clear hc
      go_wp2_with fail
      refine (HX.out W0).mono ?_
      rintro e w1 ⟨rfl, hb⟩
      have HW1 : Hid (Below w.heap.size w w1) := HW.out.trans (hb.mono HW.out.size)
      clear hb HW c1
      go_wp2_with fail
      go_roundw
      case rel => exact ⟨i + 1, by omega, by go_num, rfl, HW1.out⟩
      case measure => simp [intOf]; omega
    · obtain rfl : i = l.length := by omega
      go_wp2_with fail
      refine (sort_none W0).mono ?_
      rintro e w1 ⟨rfl, rfl⟩
      go_wp2_with fail
      refine (compact_none W0).mono ?_
      rintro e w1 ⟨rfl, rfl⟩
      go_wp2_with fail
      go_ret
      exact ⟨rfl, HW.out⟩
end Go.Proofs.Ythocaimiofehkaa

/- The laws' example of scan, a path of a number; the walk of ScanNone. -/
namespace Go.Proofs.Ythocaimiofehkaa
open Go.RowKit BaseMath WireMath NameMath

theorem nil_src (w : World) : SrcIs w none ([] : List By) := fun h => by simp at h
theorem str_cap (s : List By) (w : World) : ∃ c w2, (convert 9 26 (.string ⟨s.toArray⟩)).run Try.prog w = .ok (.slice (some ⟨w.heap.size, 0, none⟩) s.length c) w2 ∧ s.length ≤ c ∧ SrcIs w2 (some ⟨w.heap.size, 0, none⟩) s ∧ Below w.heap.size w w2 := by
  have h := run_bytes_of_string (P := Try.prog) w 9 26 5 ⟨s.toArray⟩ Try.underlying9 Try.underlying26 Try.underlying5
  have hs : (ByteArray.mk s.toArray).size = s.length := by simp [ByteArray.size]
  rw [hs] at h
  obtain ⟨c, w2, h2, h3, h4⟩ := str_bytes s w
  rw [h] at h2
  injection h2 with e1 e2
  injection e1 with _ _ e3
  subst e2
  refine ⟨_, _, h, grownCap_ge w s.length 0 5, h3, h4⟩
set_option maxHeartbeats 2000000 in
set_option maxRecDepth 100000 in
theorem found_any (w : World) : Calls Try.prog 8 #[] w fun e w' => e = .returned (.bool true) ∧ Below w.heap.size w w' := by
  go_enter Try.func8, Try.ntmps8
  go_wp2_with fail
  refine (Hs.new_any w).mono ?_
  rintro e w1 ⟨t, rfl, hh, hb1⟩
  have HH := Lib.hid (hh.below ((Below.refl w1.heap.size w1).alloc (Nat.le_refl _) (.cells #[vb 1] 5)))
  have HS := Lib.hid (one_src w1 1)
  have hb2 : Below w.heap.size w (w1.alloc (.cells #[.int .u8 1] 5)) := hb1.alloc hb1.size _
  have HB2 := Lib.hid hb2
  have HE : Hid (pathN 1 = P1) := path_one
  clear hh hb1 hb2
  go_wp2_with fail
  have HM : Hid (Calls Try.prog 22 #[t, .string ⟨#[110]⟩, .slice (some ⟨w1.heap.size, 0, none⟩) 1 1, .slice none 0 0] (w1.alloc (.cells #[.int .u8 1] 5)) fun e w' => e = .returned (.tuple #[vs (pathN 1), .int .i64 0]) ∧ Below (w1.alloc (.cells #[.int .u8 1] 5)).heap.size (w1.alloc (.cells #[.int .u8 1] 5)) w') := make_one t w1.heap.size 1 _ HH.out HS.out
  generalize w1.alloc (.cells #[.int .u8 1] 5) = w2 at *
  refine HM.out.mono ?_
  rintro e w3 ⟨rfl, hb3⟩
  have HB3 : Hid (Below w.heap.size w w3) := HB2.out.trans (hb3.mono HB2.out.size)
  rw [HE.out]
  have HPB : Hid (pathB P1 = true) := by show _ = _; rw [← HE.out]; exact pathN_is 1
  have HSP := Lib.hid spots_one
  have hpl : P1.length ≤ 34 := by decide
  have HCAT : Hid ((ByteArray.mk #[97, 98] : ByteArray) ++ ByteArray.mk P1.toArray = ⟨([97, 98] ++ P1).toArray⟩) := by show _ = _; exact cat2 [97, 98] P1
  have hal : ([97, 98] ++ P1 : List By).length ≤ 36 := by decide
  generalize P1 = p at *
  clear hb3 HB2 HH HS HM HE
  go_upto_region 2 with fail
  obtain ⟨c4, w4, hcv, hc4, hs4, hb4⟩ := str_cap ([97, 98] ++ p) w3
  rw [← HCAT.out] at hcv
  generalize ([97, 98] ++ p : List By) = q at *
  have HB4 : Hid (Below w.heap.size w w4) := HB3.out.trans (hb4.mono HB3.out.size)
  have HS4 := Lib.hid hs4
  clear hs4 hb4 HB3 HCAT
  go_wp2_with fail
  refine (spots_any (some ⟨w3.heap.size, 0, none⟩) c4 q (by omega) hc4 p w4 HS4.out).mono ?_
  rintro e w5 ⟨v5, rfl, hr5⟩
  rw [HSP.out] at hr5
  have HB5 : Hid (Below w.heap.size w w5) := HB4.out.trans (hr5.below.mono HB4.out.size)
  obtain ⟨A5, c5, rfl, hi5⟩ := row_ints hr5
  obtain ⟨b5, o5, rfl, hc5⟩ := hi5 (by decide)
  have k5 := hc5 0 (by decide)
  rw [Nat.add_zero] at k5
  rw [show ([2] : List Nat).length = 1 from rfl]
  have k5 : w5.cell? ⟨b5, o5, none⟩ = some (.int .i64 2) := k5
  clear hr5 hi5 hc5 HB4 HS4 HSP hcv
  have HSL : Hid (StrsIs (w5.alloc (.cells #[vs p] 9)) (some ⟨w5.heap.size, 0, none⟩) [p]) := fun _ => ⟨w5.heap.size, 0, rfl, fun k hk => by
    have : k = 0 := by simp at hk; exact hk
    subst this
    rw [Nat.zero_add, (Blk.new w5 9 #[vs p]).cell]; rfl⟩
  have HB6 : Hid (Below w.heap.size w (w5.alloc (.cells #[vs p] 9))) := HB5.out.alloc HB5.out.size _
  go_wp2_with fail
  have HF := Lib.hid (find_none none 0 0 (some ⟨w5.heap.size, 0, none⟩) 1 [p] (by simp) _ HSL.out (fun k hk W => by
    have : k = 0 := by simp at hk; exact hk
    subst this
    exact refers_nil p HPB.out W))
  generalize w5.alloc (.cells #[vs p] 9) = w6 at *
  refine HF.out.mono ?_
  rintro e w7 ⟨rfl, hb7⟩
  have HB7 : Hid (Below w.heap.size w w7) := HB6.out.trans (hb7.mono HB6.out.size)
  clear hb7 HB6 HF HSL k5
  go_wp2_with fail
  go_ret
  exact ⟨rfl, HB7.out⟩
end Go.Proofs.Ythocaimiofehkaa

/- The walk of ScanNone. -/
namespace Go.Proofs.Ythocaimiofehkaa
open Go.RowKit BaseMath WireMath NameMath

theorem found_once (w wo : World) (hb : Below w.heap.size w wo) : Calls Try.prog 8 #[] wo fun e w' => e = .returned (.bool true) ∧ Below w.heap.size w w' :=
  (found_any wo).mono fun _ _ h => ⟨h.1, hb.trans (h.2.mono hb.size)⟩
theorem one_str (w : World) (s : List By) : StrsIs (w.alloc (.cells #[vs s] 9)) (some ⟨w.heap.size, 0, none⟩) [s] := fun _ => ⟨w.heap.size, 0, rfl, fun k hk => by
  have : k = 0 := by simp at hk; exact hk
  subst this
  rw [Nat.zero_add, (Blk.new w 9 #[vs s]).cell]; rfl⟩
set_option maxHeartbeats 2000000 in
set_option maxRecDepth 100000 in
theorem none_walk (A : Option Addr) (ca : Nat) (p s : List By) (w : World) (hm : p.length ≤ maxLen) (hN : A = none → ca = 0) (hA : SrcIs w A p) (hsl : s.length ≤ maxLen) :
    Calls Try.prog 5 #[.slice A p.length ca, vs s] w fun e w' => e = .returned (.bool true) ∧ Below w.heap.size w w' := by
  unfold maxLen at hm hsl
  have HA := Lib.hid hA; have HN := Lib.hid hN; clear hA hN
  by_cases h1 : p.length ≤ 200
  · have h1' : ¬ (200 : Int) < p.length := by omega
    by_cases h2 : s.length ≤ 100
    · have h2' : ¬ (100 : Int) < s.length := by omega
      go_enter Try.func5, Try.ntmps5
      go_wp2_with fail
      refine (found_once w w (Below.refl _ _)).mono ?_
      rintro e w1 ⟨rfl, hb1⟩
      have HB1 := Lib.hid hb1; clear hb1
      obtain ⟨c2, w2, hcv, hs2, hb2⟩ := str_bytes s w1
      have HS2 := Lib.hid hs2
      have HB2 : Hid (Below w.heap.size w w2) := HB1.out.trans (hb2.mono HB1.out.size)
      clear hs2 hb2 HB1
      go_wp2_with fail
      refine (join_any A (some ⟨w1.heap.size, 0, none⟩) ca c2 p s (by omega) HN.out (fun h => by cases h) w2 (HA.out.below HB2.out) HS2.out).mono ?_
      rintro e w3 ⟨v3, rfl, hr3⟩
      obtain ⟨A3, c3, rfl, hs3, -, hl3, -⟩ := hr3.src
      have HB3 : Hid (Below w.heap.size w w3) := HB2.out.trans (hr3.below.mono HB2.out.size)
      have HS3 := Lib.hid hs3
      have hql : (p ++ s).length ≤ 300 := by rw [List.length_append]; omega
      clear hr3 hs3 HB2 HS2 hcv
      generalize p ++ s = q at *
      go_wp2_with fail
      refine (ris_any s w3).mono ?_
      rintro e w4 ⟨rfl, hb4⟩
      have HB4 : Hid (Below w.heap.size w w4) := HB3.out.trans (hb4.mono HB3.out.size)
      have HS4 := Lib.hid (HS3.out.below hb4)
      clear hb4 HB3 HS3
      cases hp : pathB s with
      | true =>
        clear hp
        go_wp2_with fail
        go_ret
        exact ⟨rfl, HB4.out⟩
      | false =>
        have HP := Lib.hid hp; clear hp
        have HSB : Hid (spotsB q s = []) := by show _ = _; unfold spotsB; rw [HP.out]; rfl
        go_wp2_with fail
        refine (spots_any A3 c3 q (by omega) hl3 s w4 HS4.out).mono ?_
        rintro e w5 ⟨v5, rfl, hr5⟩
        rw [HSB.out] at hr5
        obtain ⟨A5, c5, rfl, -⟩ := row_ints hr5
        rw [show ([] : List Nat).length = 0 from rfl]
        have HB5 : Hid (Below w.heap.size w w5) := HB4.out.trans (hr5.below.mono HB4.out.size)
        have HB6 : Hid (Below w.heap.size w (w5.alloc (.cells #[vs s] 9))) := HB5.out.alloc HB5.out.size _
        have HF := Lib.hid (find_none A3 q.length c3 (some ⟨w5.heap.size, 0, none⟩) 1 [s] (by simp) _ (one_str w5 s) (fun k hk W => by
          have : k = 0 := by simp at hk; exact hk
          subst this
          exact refers_no A3 q.length c3 s HP.out W))
        clear hr5 HB4 HS4
        go_wp2_with fail
        generalize w5.alloc (.cells #[vs s] 9) = w6 at *
        refine HF.out.mono ?_
        rintro e w7 ⟨rfl, hb7⟩
        have HB7 : Hid (Below w.heap.size w w7) := HB6.out.trans (hb7.mono HB6.out.size)
        clear hb7 HB6 HF
        go_wp2_with fail
        go_ret
        exact ⟨rfl, HB7.out⟩
    · have h2' : (100 : Int) < s.length := by omega
      go_enter Try.func5, Try.ntmps5
      go_wp2_with fail
      refine (found_once w w (Below.refl _ _)).mono ?_
      rintro e w1 ⟨rfl, hb1⟩
      have HB1 := Lib.hid hb1; clear hb1
      go_wp2_with fail
      refine (found_once w w1 HB1.out).mono ?_
      rintro e w2 ⟨rfl, hb2⟩
      have HB2 := Lib.hid hb2; clear hb2
      go_wp2_with fail
      go_ret
      exact ⟨rfl, HB2.out⟩
  · have h1' : (200 : Int) < p.length := by omega
    go_enter Try.func5, Try.ntmps5
    go_wp2_with fail
    refine (found_once w w (Below.refl _ _)).mono ?_
    rintro e w1 ⟨rfl, hb1⟩
    have HB1 := Lib.hid hb1; clear hb1
    go_wp2_with fail
    refine (found_once w w1 HB1.out).mono ?_
    rintro e w2 ⟨rfl, hb2⟩
    have HB2 := Lib.hid hb2; clear hb2
    go_wp2_with fail
    go_ret
    exact ⟨rfl, HB2.out⟩
end Go.Proofs.Ythocaimiofehkaa
