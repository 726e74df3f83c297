/- The contract of the reference's root. -/
import Derived.Test.YtggmogjgaoobjaaDoorXCT6
import Derived.Test.YtggmogjgaoobjaaDoorXCT1
import Derived.Deep.AppendLies
import Derived.StillTailTactics
import Derived.Deep.DeepCutAuto
import Derived.Maps.AppendAt
namespace Go.Proofs.YtggmogjgaoobjaaDoor.Hs
open Go.RowKit HashMath

set_option maxRecDepth 100000 in
theorem pow_fits (j : Nat) : (2 : Nat) ^ (36 - j) ≤ 68719476736 := by
  have : 2 ^ (36 - j) ≤ 2 ^ 36 := Nat.pow_le_pow_right (by omega) (by omega)
  simpa using this
set_option maxRecDepth 100000 in
theorem root_bits (n : Nat) (t : Bool) : ((rootK n t 37 : Nat) : Int) % 4294967296 = u (rootM n t) := by
  unfold rootM
  rw [u_ofNat _ (Nat.mod_lt _ (by decide))]
  omega
set_option maxRecDepth 100000 in
theorem rootK_lt (n : Nat) (t : Bool) (j : Nat) (h : j ≤ 37) : rootK n t j ≤ 137438953472 := by
  have h1 := rootK_le n t j h
  have h2 : 0 < 2 ^ (37 - j) := Nat.two_pow_pos _
  have h3 : rootK n t j ≤ 2 ^ 37 := Nat.le_trans (Nat.le_add_right _ _) h1
  simpa using h3

set_option maxRecDepth 100000 in
set_option maxHeartbeats 1000000 in
theorem root_third (n : Nat) (w : World) :
    Calls Tryd.prog 97 #[.int .u64 n, .bool true] w fun e w' => e = .returned (.int .u32 (u (rootM n true))) ∧ w = w' := by
  have HF := Lib.hid (root_bits n true)
  go_enter Tryd.func97, Tryd.ntmps97
  go_wp2_with fail
  go_loop [5, 6] (fun va vb => ∃ j : Nat, j ≤ 37 ∧ vb = .int .i64 (36 - (j : Int)) ∧ va = .int .u64 (rootK n true j : Nat)) (fun _ vb => (intOf vb + 1).toNat)
  case atStart => exact ⟨0, by omega, rfl, rfl⟩
  case round =>
    obtain ⟨j, hj, rfl, rfl⟩ := hrel
    by_cases hlt : j < 37
    · have hle := rootK_lt n true j hj
      have hpw := pow_fits j
      have hs : IntKind.u64.wrap ((2 : Int) ^ (36 - j)) = ((2 ^ (36 - j) : Nat) : Int) := by
        rw [show (2 : Int) ^ (36 - j) = ((2 ^ (36 - j) : Nat) : Int) by rw [Int.natCast_pow]; rfl, wrapQ, Nat.mod_eq_of_lt (by unfold Q; omega)]
      have ha : IntKind.u64.wrap (((rootK n true j : Nat) : Int) + ((2 ^ (36 - j) : Nat) : Int)) = ((rootK n true j + 2 ^ (36 - j) : Nat) : Int) := by
        rw [← Int.natCast_add, wrapQ, Nat.mod_eq_of_lt]
        unfold Q
        omega
      have HW : Hid (rootK n true (j + 1) = if cuB (rootK n true j + 2 ^ (36 - j)) n then rootK n true j + 2 ^ (36 - j) else rootK n true j) := (rfl : _ = _)
      clear hle hpw
      generalize hnb : rootK n true j + 2 ^ (36 - j) = nb at *
      clear hnb
      generalize rootK n true j = a at *
      generalize ((2 ^ (36 - j) : Nat) : Int) = pw at *
      have h36 : (0 : Int) ≤ 36 - (j : Int) := by omega
      go_wp2_with fail
      refine (cube_any nb n w).mono ?_
      rintro e w' ⟨rfl, rfl⟩
      generalize cuB nb n = r at *
      cases r with
      | true =>
        have hnx := HW.out
        rw [if_pos rfl] at hnx
        have HN := Lib.hid hnx; clear hnx HW
        go_wp2_with fail
        go_round
        case rel => exact ⟨j + 1, by omega, by go_num, by rw [HN.out]⟩
        case measure => simp [intOf]; omega
      | false =>
        have hnx := HW.out
        rw [if_neg (by simp)] at hnx
        have HN := Lib.hid hnx; clear hnx HW
        go_wp2_with fail
        go_round
        case rel => exact ⟨j + 1, by omega, by go_num, by rw [HN.out]⟩
        case measure => simp [intOf]; omega
    · obtain rfl : j = 37 := by omega
      generalize rootK n true 37 = a at *
      go_wp2
      go_ret
      exact ⟨ret_int HF.out, rfl⟩

set_option maxRecDepth 100000 in
set_option maxHeartbeats 1000000 in
theorem root_square (n : Nat) (w : World) :
    Calls Tryd.prog 97 #[.int .u64 n, .bool false] w fun e w' => e = .returned (.int .u32 (u (rootM n false))) ∧ w = w' := by
  have HF := Lib.hid (root_bits n false)
  go_enter Tryd.func97, Tryd.ntmps97
  go_wp2_with fail
  go_loop [5, 6] (fun va vb => ∃ j : Nat, j ≤ 37 ∧ vb = .int .i64 (36 - (j : Int)) ∧ va = .int .u64 (rootK n false j : Nat)) (fun _ vb => (intOf vb + 1).toNat)
  case atStart => exact ⟨0, by omega, rfl, rfl⟩
  case round =>
    obtain ⟨j, hj, rfl, rfl⟩ := hrel
    by_cases hlt : j < 37
    · have hle := rootK_lt n false j hj
      have hpw := pow_fits j
      have hs : IntKind.u64.wrap ((2 : Int) ^ (36 - j)) = ((2 ^ (36 - j) : Nat) : Int) := by
        rw [show (2 : Int) ^ (36 - j) = ((2 ^ (36 - j) : Nat) : Int) by rw [Int.natCast_pow]; rfl, wrapQ, Nat.mod_eq_of_lt (by unfold Q; omega)]
      have ha : IntKind.u64.wrap (((rootK n false j : Nat) : Int) + ((2 ^ (36 - j) : Nat) : Int)) = ((rootK n false j + 2 ^ (36 - j) : Nat) : Int) := by
        rw [← Int.natCast_add, wrapQ, Nat.mod_eq_of_lt]
        unfold Q
        omega
      have HW : Hid (rootK n false (j + 1) = if sqB (rootK n false j + 2 ^ (36 - j)) n then rootK n false j + 2 ^ (36 - j) else rootK n false j) := (rfl : _ = _)
      clear hle hpw
      generalize hnb : rootK n false j + 2 ^ (36 - j) = nb at *
      clear hnb
      generalize rootK n false j = a at *
      generalize ((2 ^ (36 - j) : Nat) : Int) = pw at *
      have h36 : (0 : Int) ≤ 36 - (j : Int) := by omega
      go_wp2_with fail
      refine (square_any nb n w).mono ?_
      rintro e w' ⟨rfl, rfl⟩
      generalize sqB nb n = r at *
      cases r with
      | true =>
        have hnx := HW.out
        rw [if_pos rfl] at hnx
        have HN := Lib.hid hnx; clear hnx HW
        go_wp2_with fail
        go_round
        case rel => exact ⟨j + 1, by omega, by go_num, by rw [HN.out]⟩
        case measure => simp [intOf]; omega
      | false =>
        have hnx := HW.out
        rw [if_neg (by simp)] at hnx
        have HN := Lib.hid hnx; clear hnx HW
        go_wp2_with fail
        go_round
        case rel => exact ⟨j + 1, by omega, by go_num, by rw [HN.out]⟩
        case measure => simp [intOf]; omega
    · obtain rfl : j = 37 := by omega
      generalize rootK n false 37 = a at *
      go_wp2
      go_ret
      exact ⟨ret_int HF.out, rfl⟩
end Go.Proofs.YtggmogjgaoobjaaDoor.Hs

/- The contract of the reference's primes. -/
namespace Go.Proofs.YtggmogjgaoobjaaDoor.Hs
open Go.RowKit HashMath

set_option maxRecDepth 100000 in
theorem info43 : (Tryd.prog.info? 59).map (fun i => (i.zero, i.size, i.bytes)) = some (some (.int .u64 0), 1, 8) := by kernel_rfl
abbrev vq (x : Nat) : Value := .int .u64 (x : Int)
set_option maxRecDepth 100000 in
/-- a row of the call's own, as the walk reads it -/
theorem own_form {w : World} {base : Nat} {e : TypeId} {v : Value} {n : Nat} {xs : List Value} (h : w.ownsRow base e 1 v n xs) :
    ∃ A c, v = .slice A n c ∧ (0 < n → ∃ g, A = some ⟨g, 0, none⟩ ∧ base ≤ g ∧ g < w.heap.size ∧ ∀ j, j < n → w.cell? ⟨g, j, none⟩ = xs[j]?) := by
  have h0 := h
  rcases h.2 with ⟨hv, h0⟩ | ⟨g, cap, cur, hv, hg, hc, hn, _, hs, ht⟩
  · subst h0
    exact ⟨none, 0, hv, fun h => absurd h (by omega)⟩
  · subst hv
    refine ⟨some ⟨g, 0, none⟩, cap, rfl, fun _ => ⟨g, rfl, hg, ?_, fun j hj => h0.cellAt j (by omega)⟩⟩
    rcases Nat.lt_or_ge g w.heap.size with h1 | h1
    · exact h1
    · rw [Array.getElem?_eq_none h1] at hc; cases hc
structure PrimeRel (w : World) (l : List Nat) (v : Value) (wr : World) : Prop where
  below : Below w.heap.size w wr
  own : wr.ownsRow w.heap.size 59 1 v l.length (l.map vq)
def allB (X : Nat) (l : List Nat) : Bool := l.all (fun y => X % y != 0)
set_option maxRecDepth 100000 in
theorem allB_snoc (X : Nat) (l : List Nat) (i : Nat) (h : i < l.length) : allB X (l.take (i + 1)) = (allB X (l.take i) && (X % l.getD i 0 != 0)) := by
  unfold allB
  rw [List.take_succ_eq_append_getElem h, List.all_append, List.getD_eq_getElem?_getD, List.getElem?_eq_getElem h]; simp
set_option maxRecDepth 100000 in
theorem tmodN (a b : Nat) : (a : Int).tmod (b : Int) = ((a % b : Nat) : Int) := by
  rw [Int.tmod_eq_emod_of_nonneg (by omega), Int.natCast_emod]

set_option maxHeartbeats 1000000 in
set_option maxRecDepth 100000 in
theorem primes_any (w : World) :
    Calls Tryd.prog 96 #[.int .i64 64] w fun e w' => ∃ v, e = .returned v ∧ PrimeRel w (primesK 310) v w' := by
  obtain ⟨i0, hi, hz0, hz1, hz2⟩ := info_parts info43
  go_enter Tryd.func96, Tryd.ntmps96
  go_wp2_with fail
  go_loopw [3, 4] (fun v vx wr => ∃ k X : Nat, k ≤ 310 ∧ Hid (X = k + 2) ∧ vx = .int .u64 X ∧ Hid (PrimeRel w (primesK k) v wr)) (fun _ vx _ => 312 - (intOf vx).toNat)
  case atStart => exact ⟨0, 2, by omega, (rfl : 2 = 0 + 2), rfl, Below.refl _ _, World.ownsRow_nil _ _ _ _⟩
  case round =>
    obtain ⟨k, X, hk, HX, rfl, HR⟩ := hrel
    rename World => W0
    obtain ⟨A, c, hv, hform⟩ := own_form HR.out.own
    subst hv
    have HF := Lib.hid hform; clear hform
    by_cases hlt : k < 310
    · have hn64 : ((primesK k).length : Int) < 64 := by have := primesK_lt k hlt; omega
      have hX312 : X < 312 := by have := HX.out; omega
      have HS : Hid (primesK (k + 1) = if allB X (primesK k) then primesK k ++ [X] else primesK k) := by rw [HX.out]; rfl
      have HG := Lib.hid (primesK_ge k)
      generalize primesK k = l at *
      go_wp2_with fail
      go_loop [5, 6] (fun vb vi => ∃ i : Nat, i ≤ l.length ∧ vi = .int .i64 i ∧ vb = .bool (allB X (l.take i))) (fun _ vi => l.length - (intOf vi).toNat)
      case atStart => exact ⟨0, Nat.zero_le _, rfl, rfl⟩
      case round =>
        obtain ⟨i, hi2, rfl, rfl⟩ := hrel
        by_cases hil : i < l.length
        · obtain ⟨g, rfl, hgb, hgl, hcell⟩ := HF.out (by omega)
          have hc := hcell i hil
          rw [List.getElem?_map, List.getElem?_eq_getElem hil] at hc
          have hy2 := (HG.out l[i] (List.getElem_mem hil)).1
          have HA : Hid (allB X (l.take (i + 1)) = (allB X (l.take i) && (X % l[i] != 0))) := by
            have := allB_snoc X l i hil
            rw [List.getD_eq_getElem?_getD, List.getElem?_eq_getElem hil] at this
            exact this
          have hc' : W0.cell? ⟨g, i, none⟩ = some (vq l[i]) := hc
          clear hc hcell
          generalize l[i] = y at *
          have htm := tmodN X y
          have hem : (X : Int) % (y : Int) = ((X % y : Nat) : Int) := by rw [Int.natCast_emod]
          have hyz : ¬ (y : Int) = 0 := by omega
          generalize X % y = m at *
          generalize allB X (l.take i) = r at *
          cases r with
          | false =>
            go_wp2_with fail
            go_round
            case rel => exact ⟨i + 1, by omega, by go_num, by rw [HA.out]; rfl⟩
            case measure => simp [intOf]; omega
          | true =>
            by_cases hm0 : m = 0
            · subst hm0
              have hne : (((0 : Nat) : Int) != 0) = false := rfl
              go_wp2_with fail
              go_round
              case rel => exact ⟨i + 1, by omega, by go_num, by rw [HA.out]; rfl⟩
              case measure => simp [intOf]; omega
            · have hne : ((m : Int) != 0) = true := by simpa using hm0
              have hne2 : (m != 0) = true := by simpa using hm0
              go_wp2_with fail
              go_round
              case rel => exact ⟨i + 1, by omega, by go_num, by rw [HA.out, hne2]; rfl⟩
              case measure => simp [intOf]; omega
        · obtain rfl : i = l.length := by omega
          rw [List.take_length]
          have hown := HR.out.own
          have HSZ := Lib.hid HR.out.below.size
          have hX1 : IntKind.u64.wrap ((X : Int) + 1) = (X : Int) + 1 := by rw [IntKind.wrap_u64]; omega
          have hL := primesK_lt
          generalize allB X l = r at *
          cases r with
          | false =>
            have HE : Hid (primesK (k + 1) = l) := HS.out
            go_wp2_with fail
            go_roundw
            case rel => exact ⟨k + 1, X + 1, by omega, (by have := HX.out; omega : X + 1 = k + 1 + 2), by go_num, by rw [HE.out]; exact HR.out⟩
            case measure => simp [intOf]; omega
          | true =>
            have HE : Hid (primesK (k + 1) = l ++ [X]) := HS.out
            go_wp2_with (at_builtin; refine wpList_append_own _ rfl _ _ 147 rfl w.heap.size 59 i0 (.int .u64 0) 1 8 Tryd.underlying147 hi hz0 hz1 hz2 rfl (by decide) _ _ _ rfl (hown.alloc _) ⟨W0.heap.size, 0, none⟩ 1 1 [vq X] rfl rfl ?c1 ?c2 ?c3 ?c4 ?c5 ?_)
            case c2 => rfl
            case c3 => unfold maxLen; omega
            case c4 => omega
            case c5 => have := HSZ.out; simp; omega
            intro v' w2 hown' hgrow _
            have HN : Hid (PrimeRel w (primesK (k + 1)) v' w2) := by
              refine ⟨?_, ?_⟩
              · refine (HR.out.below.alloc HSZ.out _).grown hgrow (by have := HSZ.out; simp; omega) ?_
                intro g hg'
                exact (hown.lt g hg').1
              · rw [HE.out]
                simpa using hown'
            clear hown' hgrow hown HE
            go_wp2_with fail
            go_roundw
            case rel => exact ⟨k + 1, X + 1, by omega, (by have := HX.out; omega : X + 1 = k + 1 + 2), by go_num, HN.out⟩
            case measure => simp [intOf]; omega
    · obtain rfl : k = 310 := by omega
      have hn64 := primesK_310
      have HR2 := Lib.hid HR.out
      clear HF HR
      rw [hn64] at HR2 ⊢
      clear hn64
      go_wp2
      go_ret
      exact ⟨_, rfl, HR2.out⟩
end Go.Proofs.YtggmogjgaoobjaaDoor.Hs

/- The contract of schedule: the plan of a block, by value. -/
namespace Go.Proofs.YtggmogjgaoobjaaDoor.Hs
open Go.RowKit HashMath

/-- a word in a cell -/
abbrev vw (x : Wd) : Value := .int .u32 (u x)
abbrev vb (x : By) : Value := .int .u8 (ub x)
/-- bytes that the walk may read -/
def BytesAt (w : World) (b o : Nat) (p : List By) : Prop := ∀ k (h : k < p.length), w.cell? ⟨b, o + k, none⟩ = some (vb p[k])
set_option maxRecDepth 100000 in
theorem BytesAt.getD {w : World} {b o : Nat} {p : List By} (h : BytesAt w b o p) (k : Nat) (hk : k < p.length) : w.cell? ⟨b, o + k, none⟩ = some (vb (p.getD k 0)) := by
  rw [h k hk]; simp [List.getD, List.getElem?_eq_getElem hk]
set_option maxRecDepth 100000 in
theorem block_of_cell {W : World} {p : Addr} {v : Value} (h : W.cell? p = some v) : p.block < W.heap.size := World.block_lt_of_cell? W _ h
set_option maxRecDepth 100000 in
theorem BytesAt.lt {w : World} {b o : Nat} {p : List By} (h : BytesAt w b o p) (hk : 0 < p.length) : b < w.heap.size := block_of_cell (h 0 hk)
set_option maxRecDepth 100000 in
theorem BytesAt.below {B : Nat} {w w' : World} {b o : Nat} {p : List By} (h : BytesAt w b o p) (hb : Below B w w') (hB : b < B) : BytesAt w' b o p :=
  fun k hk => by rw [hb.cell (p := ⟨b, o + k, none⟩) hB]; exact h k hk
end Go.Proofs.YtggmogjgaoobjaaDoor.Hs

/- The contract of mix: one block. -/
namespace Go.Proofs.YtggmogjgaoobjaaDoor.Hs
open Go.RowKit HashMath

/-- the eight words, by value -/
abbrev cellsS (s : St) : List Value := [vw s.a, vw s.b, vw s.c, vw s.d, vw s.e, vw s.f, vw s.g, vw s.h]
abbrev aggS (s : St) : Value := .agg #[vw s.a, vw s.b, vw s.c, vw s.d, vw s.e, vw s.f, vw s.g, vw s.h]
/-- the two tables of the program -/
structure Tabs (w : World) : Prop where
  start : w.rangeAt 0 0 (cellsS H0)
  rounds : w.rangeAt 1 0 (K0.map vw)
set_option maxRecDepth 100000 in
theorem Tabs.size {w : World} (h : Tabs w) : 1 < w.heap.size := block_of_cell (h.rounds 0 (vw (K0.getD 0 0)) rfl)
set_option maxRecDepth 100000 in
theorem Tabs.below {B : Nat} {w w' : World} (h : Tabs w) (hb : Below B w w') (hB : 1 < B) : Tabs w' :=
  ⟨fun j v hv => by rw [hb.cell (p := ⟨0, 0 + j, none⟩) (by show 0 < B; omega)]; exact h.start j v hv, fun j v hv => by rw [hb.cell (p := ⟨1, 0 + j, none⟩) hB]; exact h.rounds j v hv⟩
set_option maxRecDepth 100000 in
theorem map_getD (l : List Wd) (k : Nat) (h : k < l.length) : (l.map vw)[k]? = some (vw (l.getD k 0)) := by
  rw [List.getElem?_map, List.getElem?_eq_getElem h, List.getD_eq_getElem?_getD, List.getElem?_eq_getElem h]; rfl
/-- the first k words summed up -/
def addUp (ss ts : List Wd) (k : Nat) : List Wd := (List.zipWith (· + ·) ss ts).take k ++ ss.drop k
set_option maxRecDepth 100000 in
theorem addUp_zero (ss ts : List Wd) : addUp ss ts 0 = ss := by simp [addUp]
set_option maxRecDepth 100000 in
theorem addUp_getD (ss ts : List Wd) (k : Nat) (h1 : k < ss.length) (h2 : k < ts.length) : (addUp ss ts k)[k]? = some (ss.getD k 0) := by
  have : ((List.zipWith (· + ·) ss ts).take k).length = k := by simp; omega
  unfold addUp
  rw [List.getElem?_append_right (by omega), this, Nat.sub_self, List.getElem?_drop, Nat.add_zero, List.getElem?_eq_getElem h1, List.getD_eq_getElem?_getD, List.getElem?_eq_getElem h1]; rfl
set_option maxRecDepth 100000 in
theorem addUp_succ (ss ts : List Wd) (k : Nat) (h1 : k < ss.length) (h2 : k < ts.length) : (addUp ss ts k).set k (ss.getD k 0 + ts.getD k 0) = addUp ss ts (k + 1) := by
  have hl : ((List.zipWith (· + ·) ss ts).take k).length = k := by simp; omega
  unfold addUp
  rw [List.set_append_right _ _ (by omega), hl, Nat.sub_self, List.drop_eq_getElem_cons h1, List.set_cons_zero]
  rw [List.take_succ_eq_append_getElem (by simp; omega), List.getElem_zipWith]
  rw [List.getD_eq_getElem?_getD, List.getElem?_eq_getElem h1, List.getD_eq_getElem?_getD, List.getElem?_eq_getElem h2]
  simp
end Go.Proofs.YtggmogjgaoobjaaDoor.Hs

/- The contracts of the reference's Tables and New. -/
namespace Go.Proofs.YtggmogjgaoobjaaDoor.Hs
open Go.RowKit HashMath

set_option maxRecDepth 100000 in
theorem info38 : (Tryd.prog.info? 149).map (fun i => (i.zero, i.size, i.bytes)) = some (some (.int .u32 0), 1, 4) := by kernel_rfl
/-- two rows of the call's own, apart from one another -/
structure TabRel (w1 : World) (lh lk : List Wd) (vh vk : Value) (wr : World) : Prop where
  below : Below w1.heap.size w1 wr
  h : wr.ownsRow w1.heap.size 149 1 vh lh.length (lh.map vw)
  k : wr.ownsRow w1.heap.size 149 1 vk lk.length (lk.map vw)
  apart : ∀ g, vh.ownBlock = some g → vk.ownBlock = some g → False
set_option maxRecDepth 100000 in
theorem TabRel.stepH {w1 : World} {lh lk : List Wd} {vh vk v' : Value} {W0 w2 : World} {o : Obj} {x : Wd} (r : TabRel w1 lh lk vh vk W0) (ho : w2.ownsRow w1.heap.size 149 1 v' (lh.length + 1) (lh.map vw ++ [vw x]))
    (hg : (W0.alloc o).grownBy w2 vh.ownBlock) (ha : v'.ownBlock = vh.ownBlock ∨ v'.ownBlock = some (W0.alloc o).heap.size) : TabRel w1 (lh ++ [x]) lk v' vk w2 := by
  have hs := r.below.size
  refine ⟨(r.below.alloc hs _).grown hg (by simp; omega) (fun g hg' => (r.h.lt g hg').1), by simpa using ho, (r.k.alloc o).kept hg ?_, ?_⟩
  · cases hk : vk.ownBlock with
    | none => exact .inl rfl
    | some g => exact .inr (fun e => r.apart g e.symm hk)
  · intro g h1 h2
    rcases ha with e | e
    · exact r.apart g (e ▸ h1) h2
    · rw [e] at h1
      have := (r.k.lt g h2).2
      simp at h1
      omega
set_option maxRecDepth 100000 in
theorem TabRel.stepK {w1 : World} {lh lk : List Wd} {vh vk v' : Value} {W0 w2 : World} {o : Obj} {x : Wd} (r : TabRel w1 lh lk vh vk W0) (ho : w2.ownsRow w1.heap.size 149 1 v' (lk.length + 1) (lk.map vw ++ [vw x]))
    (hg : (W0.alloc o).grownBy w2 vk.ownBlock) (ha : v'.ownBlock = vk.ownBlock ∨ v'.ownBlock = some (W0.alloc o).heap.size) : TabRel w1 lh (lk ++ [x]) vh v' w2 := by
  have hs := r.below.size
  refine ⟨(r.below.alloc hs _).grown hg (by simp; omega) (fun g hg' => (r.k.lt g hg').1), (r.h.alloc o).kept hg ?_, by simpa using ho, ?_⟩
  · cases hk : vh.ownBlock with
    | none => exact .inl rfl
    | some g => exact .inr (fun e => r.apart g hk e.symm)
  · intro g h1 h2
    rcases ha with e | e
    · exact r.apart g h1 (e ▸ h2)
    · rw [e] at h2
      have := (r.h.lt g h1).2
      simp at h2
      omega
set_option maxRecDepth 100000 in
theorem take_snoc {l : List Wd} (k : Nat) (x : Wd) (h : l[k]? = some x) : l.take (k + 1) = l.take k ++ [x] := by
  obtain ⟨h1, h2⟩ := List.getElem?_eq_some_iff.1 h
  rw [List.take_succ_eq_append_getElem h1, h2]
set_option maxRecDepth 100000 in
theorem kth_K (k : Nat) (h : k < 64) : K0[k]? = some (rootM ((primesK 310).getD k 0) true) := by
  have hl : k < (primesK 310).length := by rw [primesK_310]; exact h
  rw [← roots_K, List.getElem?_map, List.getElem?_eq_getElem hl, List.getD_eq_getElem?_getD, List.getElem?_eq_getElem hl]; rfl
set_option maxRecDepth 100000 in
theorem kth_H (k : Nat) (h : k < 8) : H0.list[k]? = some (rootM ((primesK 310).getD k 0) false) := by
  have hl : k < (primesK 310).length := by rw [primesK_310]; omega
  rw [← roots_H, List.getElem?_map, List.getElem?_take, if_pos h, List.getElem?_eq_getElem hl, List.getD_eq_getElem?_getD, List.getElem?_eq_getElem hl]; rfl

set_option maxHeartbeats 1000000 in
set_option maxRecDepth 100000 in
theorem tables_any (w : World) :
    Calls Tryd.prog 76 #[] w fun e w' => ∃ w1 vh vk, e = .returned (.tuple #[vh, vk]) ∧ Below w.heap.size w w1 ∧ TabRel w1 H0.list K0 vh vk w' := by
  obtain ⟨i0, hi, hz0, hz1, hz2⟩ := info_parts info38
  go_enter Tryd.func76, Tryd.ntmps76
  go_wp2_with fail
  refine (primes_any w).mono ?_
  rintro e w1 ⟨v, rfl, hP⟩
  have ho := hP.own
  obtain ⟨A, c, rfl, hform⟩ := own_form ho
  obtain ⟨g, rfl, hg1, hg2, hcell⟩ := hform (by rw [primesK_310]; omega)
  have HC := Lib.hid hcell
  have HB1 := Lib.hid hP.below
  rw [primesK_310]
  clear hcell hP ho hform
  go_wp2_with fail
  go_loopw [3, 4, 5] (fun vh vk vi wr => ∃ k : Nat, k ≤ 64 ∧ vi = .int .i64 k ∧ Hid (TabRel w1 (H0.list.take k) (K0.take k) vh vk wr)) (fun _ _ vi _ => 64 - (intOf vi).toNat)
  case atStart => exact ⟨0, Nat.zero_le _, rfl, Below.refl _ _, World.ownsRow_nil _ _ _ _, World.ownsRow_nil _ _ _ _, fun g h => by cases h⟩
  case round =>
    obtain ⟨k, hk, rfl, HR⟩ := hrel
    rename World => W0
    by_cases hlt : k < 64
    · have hcl : w1.cell? ⟨g, k, none⟩ = some (vq ((primesK 310).getD k 0)) := by
        have hl : k < (primesK 310).length := by rw [primesK_310]; exact hlt
        rw [HC.out k hl, List.getElem?_map, List.getElem?_eq_getElem hl, List.getD_eq_getElem?_getD, List.getElem?_eq_getElem hl]; rfl
      have hk1 := kth_K k hlt
      have HK1 := Lib.hid hk1; clear hk1
      have HH1 := Lib.hid (kth_H k)
      obtain ⟨lk, hlk⟩ : ∃ lk, lk = K0.take k := ⟨_, rfl⟩
      obtain ⟨lh, hlh⟩ : ∃ lh, lh = H0.list.take k := ⟨_, rfl⟩
      rw [← hlk, ← hlh] at HR
      have HLK : Hid (lk.length = k) := by show _ = _; rw [hlk]; simp [K0_length]; omega
      have HNK : Hid (K0.take (k + 1) = lk ++ [rootM ((primesK 310).getD k 0) true]) := by show _ = _; rw [hlk]; exact take_snoc k _ HK1.out
      generalize (primesK 310).getD k 0 = p at *
      have hc0 : W0.cell? ⟨g, k, none⟩ = some (vq p) := by rw [HR.out.below.cell (p := ⟨g, k, none⟩) hg2]; exact hcl
      have HSZ := Lib.hid HR.out.below.size
      have hk64 : (k : Int) < 64 := by omega
      by_cases h8 : k < 8
      · have hk8 : (k : Int) < 8 := by omega
        have HLH : Hid (lh.length = k) := by show _ = _; rw [hlh]; simp [St.list]; omega
        have HNH : Hid (H0.list.take (k + 1) = lh ++ [rootM p false]) := by show _ = _; rw [hlh]; exact take_snoc k _ (HH1.out h8)
        clear hlk hlh HK1 HH1
        have hownH := HR.out.h
        rw [HLH.out] at hownH
        go_upto_region 8 with (first
          | (go_at_call 97; refine (root_square p _).mono ?_; rintro e w' ⟨rfl, rfl⟩)
          | (at_builtin; refine wpList_append_own_at _ rfl _ _ 28 rfl w1.heap.size 149 i0 (.int .u32 0) 1 4 Tryd.underlying28 hi hz0 hz1 hz2 rfl (by decide) _ _ _ rfl (hownH.alloc _) ⟨W0.heap.size, 0, none⟩ 1 1 [vw (rootM p false)] rfl rfl ?c1 ?c2 ?c3 ?c4 ?c5 ?_))
        case c1 =>
          intro j v hj
          rw [Addr.add_mid, Nat.zero_add, (Blk.new W0 149 #[vw (rootM p false)]).cell]
          exact hj
        case c2 => intro v hv; simp at hv; subst hv; rfl
        case c3 => unfold maxLen; omega
        case c4 => omega
        case c5 => have := HSZ.out; simp; omega
        intro v' w2 hown' hgrow _ hat
        have HR2 := Lib.hid (HR.out.stepH (x := rootM p false) (by rw [HLH.out]; exact hown') hgrow (by simpa using hat))
        clear hown' hgrow hat hownH hc0
        have hc2 : w2.cell? ⟨g, k, none⟩ = some (vq p) := by rw [HR2.out.below.cell (p := ⟨g, k, none⟩) hg2]; exact hcl
        have HSZ2 := Lib.hid HR2.out.below.size
        have hownK := HR2.out.k
        rw [HLK.out] at hownK
        go_wp2_with (first
          | (go_at_call 97; refine (root_third p _).mono ?_; rintro e w' ⟨rfl, rfl⟩)
          | (at_builtin; refine wpList_append_own_at _ rfl _ _ 28 rfl w1.heap.size 149 i0 (.int .u32 0) 1 4 Tryd.underlying28 hi hz0 hz1 hz2 rfl (by decide) _ _ _ rfl (hownK.alloc _) ⟨w2.heap.size, 0, none⟩ 1 1 [vw (rootM p true)] rfl rfl ?d1 ?d2 ?d3 ?d4 ?d5 ?_))
        case d1 =>
          intro j v hj
          rw [Addr.add_mid, Nat.zero_add, (Blk.new w2 149 #[vw (rootM p true)]).cell]
          exact hj
        case d2 => intro v hv; simp at hv; subst hv; rfl
        case d3 => unfold maxLen; omega
        case d4 => omega
        case d5 => have := HSZ2.out; simp; omega
        intro v2 w3 hown2 hgrow2 _ hat2
        have HR3 := Lib.hid (HR2.out.stepK (x := rootM p true) (by rw [HLK.out]; exact hown2) hgrow2 (by simpa using hat2))
        clear hown2 hgrow2 hat2 hownK
        go_wp2_with fail
        go_roundw
        case rel => exact ⟨k + 1, by omega, by go_num, by rw [HNK.out, HNH.out]; exact HR3.out⟩
        case measure => simp [intOf]; omega
      · have hk8 : ¬ (k : Int) < 8 := by omega
        have HNH : Hid (H0.list.take (k + 1) = lh) := by show _ = _; rw [hlh, List.take_of_length_le (by simp [St.list]; omega), List.take_of_length_le (by simp [St.list]; omega)]
        clear hlk hlh HK1 HH1
        have hc2 : W0.cell? ⟨g, k, none⟩ = some (vq p) := by rw [HR.out.below.cell (p := ⟨g, k, none⟩) hg2]; exact hcl
        have HSZ2 := Lib.hid HR.out.below.size
        have hownK := HR.out.k
        rw [HLK.out] at hownK
        go_wp2_with (first
          | (go_at_call 97; refine (root_third p _).mono ?_; rintro e w' ⟨rfl, rfl⟩)
          | (at_builtin; refine wpList_append_own_at _ rfl _ _ 28 rfl w1.heap.size 149 i0 (.int .u32 0) 1 4 Tryd.underlying28 hi hz0 hz1 hz2 rfl (by decide) _ _ _ rfl (hownK.alloc _) ⟨W0.heap.size, 0, none⟩ 1 1 [vw (rootM p true)] rfl rfl ?d1 ?d2 ?d3 ?d4 ?d5 ?_))
        case d1 =>
          intro j v hj
          rw [Addr.add_mid, Nat.zero_add, (Blk.new W0 149 #[vw (rootM p true)]).cell]
          exact hj
        case d2 => intro v hv; simp at hv; subst hv; rfl
        case d3 => unfold maxLen; omega
        case d4 => omega
        case d5 => have := HSZ2.out; simp; omega
        intro v2 w3 hown2 hgrow2 _ hat2
        have HR3 := Lib.hid (HR.out.stepK (x := rootM p true) (by rw [HLK.out]; exact hown2) hgrow2 (by simpa using hat2))
        clear hown2 hgrow2 hat2 hownK
        go_wp2_with fail
        go_roundw
        case rel => exact ⟨k + 1, by omega, by go_num, by rw [HNK.out, HNH.out]; exact HR3.out⟩
        case measure => simp [intOf]; omega
    · obtain rfl : k = 64 := by omega
      have HR2 := Lib.hid HR.out
      rw [show H0.list.take 64 = H0.list from rfl, show K0.take 64 = K0 from rfl] at HR2
      clear HR HC
      go_wp2
      go_ret2
      exact ⟨w1, _, _, rfl, HB1.out, HR2.out⟩
end Go.Proofs.YtggmogjgaoobjaaDoor.Hs

/- The contract of the reference's New: the tables, made from primes. -/
namespace Go.Proofs.YtggmogjgaoobjaaDoor.Hs
open Go.RowKit HashMath

/-- a Hasher whose tables are those of SHA-256 -/
def HasherIs (w : World) (t : Value) : Prop :=
  ∃ gh ch gk ck, t = .agg #[.slice (some ⟨gh, 0, none⟩) 8 ch, .slice (some ⟨gk, 0, none⟩) 64 ck] ∧ w.rangeAt gh 0 (cellsS H0) ∧ w.rangeAt gk 0 (K0.map vw)
set_option maxRecDepth 100000 in
theorem rangeAt_below {B b : Nat} {w w' : World} {cs : List Value} (h : w.rangeAt b 0 cs) (hb : Below B w w') (hB : b < B) : w'.rangeAt b 0 cs := fun j v hv => by
  rw [hb.cell (p := ⟨b, 0 + j, none⟩) hB]; exact h j v hv
set_option maxRecDepth 100000 in
theorem rangeAt_lt {b : Nat} {w : World} {cs : List Value} (h : w.rangeAt b 0 cs) (h0 : 0 < cs.length) : b < w.heap.size := block_of_cell (h 0 _ (List.getElem?_eq_getElem h0))
set_option maxRecDepth 100000 in
theorem HasherIs.below {w w' : World} {t : Value} (h : HasherIs w t) (hb : Below w.heap.size w w') : HasherIs w' t := by
  obtain ⟨gh, ch, gk, ck, ht, h1, h2⟩ := h
  exact ⟨gh, ch, gk, ck, ht, rangeAt_below h1 hb (rangeAt_lt h1 (by simp)), rangeAt_below h2 hb (rangeAt_lt h2 (by simp [K0_length]))⟩
set_option maxRecDepth 100000 in
theorem own_range {w : World} {base : Nat} {v : Value} {n : Nat} {l : List Wd} (h : w.ownsRow base 149 1 v n (l.map vw)) (hl : l.length = n) (h0 : 0 < n) :
    ∃ g c, v = .slice (some ⟨g, 0, none⟩) n c ∧ w.rangeAt g 0 (l.map vw) := by
  obtain ⟨A, c, rfl, hf⟩ := own_form h
  obtain ⟨g, rfl, _, _, hc⟩ := hf h0
  exact ⟨g, c, rfl, fun j u hu => by rw [Nat.zero_add, hc j (by have := (List.getElem?_eq_some_iff.1 hu).1; simp at this; omega)]; exact hu⟩
set_option maxRecDepth 100000 in
theorem info26 : (Tryd.prog.info? 30).map (fun i => (i.zero, i.size)) = some (some (.agg #[.slice none 0 0, .slice none 0 0]), 2) := by kernel_rfl
set_option maxRecDepth 100000 in
/-- A RESULT THROUGH A CELL: a struct by value -/
theorem bodyPost_row {P : Program} {w : World} {b : Nat} {t : TypeId} {cs : List Value} {fn : Func} {R : Ending → World → Prop} {a : Act} {p : Tmp} {d : TypeDesc} (hf : fn.results = #[.cell p t]) (hp : a.tmps.getD p undef = .pointer (some ⟨b, 0, none⟩))
    (h : Blk w b t cs) (hu : P.underlying t = some d) (hr : d.isRow = true) (hi : (P.info? t).map (·.size) = some cs.length) (hd : a.defers = []) (hR : R (.returned (.agg cs.toArray)) w) : bodyPost P fn R .ret a w := by
  refine bodyPost_ret (v := .agg cs.toArray) ?_ hd hR
  rw [results_cell_one hf, hp]
  simp only [asAddr, Sem.run_pure, Result.andThen, run_loadVar_mid w b 0 t cs d h.range hu hr hi]

set_option maxRecDepth 100000 in
set_option maxHeartbeats 1000000 in
theorem new_any (w : World) :
    Calls Tryd.prog 32 #[] w fun e w' => ∃ t, e = .returned t ∧ HasherIs w' t ∧ Below w.heap.size w w' := by
  obtain ⟨hz26, hs26⟩ := zero_of_info info26
  have HZ := Lib.hid hs26; clear hs26
  go_enter Tryd.func32, Tryd.ntmps32
  go_wp2_with fail
  generalize hW1 : w.alloc (.cells #[.slice none 0 0, .slice none 0 0] 30) = W1
  have HB : Hid (Blk W1 w.heap.size 30 [.slice none 0 0, .slice none 0 0]) := by show Blk _ _ _ _; rw [← hW1]; exact Blk.new w 30 _
  have HL : Hid (Below w.heap.size w W1) := by show Below _ _ _; rw [← hW1]; exact (Below.refl _ _).alloc (Nat.le_refl _) _
  clear hW1
  refine (tables_any W1).mono ?_
  rintro e w2 ⟨w1, vh, vk, rfl, hb1, hr⟩
  obtain ⟨gh, ch, rfl, hrh⟩ := own_range (n := 8) hr.h rfl (by omega)
  obtain ⟨gk, ck, rfl, hrk⟩ := own_range (n := 64) hr.k rfl (by omega)
  have HB2 : Hid (Below W1.heap.size W1 w2) := hb1.trans (hr.below.mono hb1.size)
  have HBB := Lib.hid (HB.out.below HB2.out HB.out.lt)
  have hne1 : Hid (gh ≠ w.heap.size) := by
    have h1 := (hr.h.lt gh rfl).1
    have h2 := HB.out.lt
    have h3 := hb1.size
    show _ ≠ _; omega
  have hne2 : Hid (gk ≠ w.heap.size) := by
    have h1 := (hr.k.lt gk rfl).1
    have h2 := HB.out.lt
    have h3 := hb1.size
    show _ ≠ _; omega
  have HRH := Lib.hid hrh; have HRK := Lib.hid hrk
  have HBw : Hid (Below w.heap.size w w2) := HL.out.trans (HB2.out.mono HL.out.size)
  clear hb1 hr hrh hrk HB HL HB2
  go_wp2_with (refine wpList_store_blk (cs' := [.slice (some ⟨gh, 0, none⟩) 8 ch, .slice (some ⟨gk, 0, none⟩) 64 ck]) rfl (.tmp 0) (.tmp 9) rfl rfl rfl HBB.out rfl HZ.out rfl ?_; intro w3 hset; have HS := Lib.hid hset; clear hset)
  refine bodyPost_row rfl rfl HS.out.blk Tryd.underlying30 rfl HZ.out rfl ⟨_, rfl, ⟨gh, ch, gk, ck, rfl, ?_, ?_⟩, HS.out.below _ _ HBw.out (Nat.le_refl _)⟩
  · intro j v hv
    rw [HS.out.cell (p := ⟨gh, 0 + j, none⟩) hne1.out]; exact HRH.out j v hv
  · intro j v hv
    rw [HS.out.cell (p := ⟨gk, 0 + j, none⟩) hne2.out]; exact HRK.out j v hv
end Go.Proofs.YtggmogjgaoobjaaDoor.Hs
