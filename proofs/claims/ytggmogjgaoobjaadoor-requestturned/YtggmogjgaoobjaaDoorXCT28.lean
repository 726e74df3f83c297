/- Lists of Made, lists of these, and Asks, that came in, opened. -/
import Derived.Test.YtggmogjgaoobjaaDoorXCT6
import Derived.Test.YtggmogjgaoobjaaDoorXCT27
import Derived.Deep.Slices
import Derived.Deep.Fields
import Derived.ChangeSame
import Derived.SliceStrings
import Derived.Test.YtggmogjgaoobjaaDoorXCT16
import Derived.BigQuiet
import Derived.Test.YtggmogjgaoobjaaDoorXCT22
import Derived.Test.YtggmogjgaoobjaaDoorXCT20
import Derived.Test.YtggmogjgaoobjaaDoorXCT26
import Derived.Test.YtggmogjgaoobjaaDoorXCT25
import Derived.Deep.CutRange
namespace Go.Proofs.YtggmogjgaoobjaaDoor
open Go.ChangeShapes Go.WideShapes Go.ChangeAt Go.RowKit Go.WideElems Go.ChangeMaps Go.Deep BaseMath WireMath ReqMath
open TreeMath hiding By

set_option maxRecDepth 100000 in
theorem cells128 : Tryd.prog.cellsOf 128 = 6 := by kernel_rfl
set_option maxRecDepth 100000 in
theorem cells72 : Tryd.prog.cellsOf 72 = 1 := by kernel_rfl
set_option maxRecDepth 100000 in
theorem cells37 : Tryd.prog.cellsOf 37 = 1 := by kernel_rfl
set_option maxRecDepth 100000 in
theorem cells4 : Tryd.prog.cellsOf 4 = 1 := by kernel_rfl
set_option maxRecDepth 100000 in
theorem cells60 : Tryd.prog.cellsOf 60 = 1 := by kernel_rfl
set_option maxRecDepth 100000 in
theorem cells25 : Tryd.prog.cellsOf 25 = 5 := by kernel_rfl
theorem list_of {α : Type} {P : Nat → α → Prop} : ∀ (n : Nat), (∀ i, i < n → ∃ x, P i x) → ∃ l : List α, l.length = n ∧ ∀ i (h : i < l.length), P i l[i]
  | 0, _ => ⟨[], rfl, fun i h => absurd h (by simp)⟩
  | n + 1, key => by
    obtain ⟨l, hlen, hl⟩ := list_of n (fun i hin => key i (by omega))
    obtain ⟨x, hx⟩ := key n (by omega)
    refine ⟨l ++ [x], by simp [hlen], fun i h => ?_⟩
    by_cases e : i < l.length
    · rw [List.getElem_append_left e]; exact hl i e
    · have : i = l.length := by simp at h; omega
      subst this
      rw [List.getElem_concat_length rfl, hlen]; exact hx
section
variable {H : Type} {enc : TypeId × Value → H}
theorem trod_floatK {P : Program} {w : World} {base : Nat} {spare : Nat → Bool} {held : Bool} {fuel : Nat} {t : TypeId} {cs : List Value} {x : DataW H × List MemPlace} {k : FloatKind} (ht : P.underlying t = some (.float k))
    (h : DataW.trod enc P w base spare held fuel t cs = some x) : ∃ n : Nat, cs = [.float k n] ∧ (Lit.float k n).wf = true := by
  cases fuel with
  | zero => simp [DataW.trod] at h
  | succ n =>
    unfold DataW.trod at h
    rw [ht] at h
    split at h <;> simp_all
theorem trod_float {P : Program} {w : World} {base : Nat} {spare : Nat → Bool} {held : Bool} {fuel : Nat} {t : TypeId} {cs : List Value} {x : DataW H × List MemPlace} (ht : P.underlying t = some (.float .f64))
    (h : DataW.trod enc P w base spare held fuel t cs = some x) : ∃ n : Nat, cs = [.float .f64 n] ∧ n < 18446744073709551616 := by
  obtain ⟨n, h1, h2⟩ := trod_floatK ht h
  refine ⟨n, h1, ?_⟩
  have := of_decide_eq_true (show decide (n < 2 ^ 64) = true from h2)
  omega
set_option maxRecDepth 100000 in
theorem open_bys {W : World} {fuel : Nat} {v : Value} {x : DataW H × List MemPlace} (h : DataW.trod enc Tryd.prog W 0 (fun _ => true) true fuel 37 [v] = some x) :
    ∃ (A : Option Addr) (cap : Nat) (bs : List By), v = .slice A bs.length cap ∧ bs.length ≤ maxLen ∧ bs.length ≤ cap ∧ (A = none → cap = 0) ∧ SrcIs W A bs := by
  rcases open_ints Tryd.underlying37 Tryd.underlying5 cells5 h with ⟨hcs, hx⟩ | ⟨a, n, cap, zs, hcs, _, hl, hm, hz, hx, hcell, hwz⟩
  · obtain rfl : v = .slice none 0 0 := by simpa using hcs
    exact ⟨none, 0, [], rfl, by unfold maxLen; simp, by simp, fun _ => rfl, fun h => absurd h (by simp)⟩
  · obtain rfl : v = .slice (some a) n cap := by simpa using hcs
    simp only [if_true] at hz
    have hlen : ((zs.take n).map (fun z => UInt8.ofNat z.toNat)).length = n := by simp; omega
    refine ⟨some a, cap, (zs.take n).map (fun z => UInt8.ofNat z.toNat), by rw [hlen], by omega, by omega, (fun h => by cases h), ?_⟩
    intro hpos
    have hp : 0 < zs.length := by rw [hlen] at hpos; omega
    obtain ⟨b, off, rfl, hc⟩ := ints_at hcell hp
    refine ⟨b, off, rfl, ?_⟩
    intro k hk
    have hk' : k < zs.length := by rw [hlen] at hk; omega
    rw [hc k hk']
    simp only [List.getElem_map, List.getElem_take, List.getD_eq_getElem?_getD, List.getElem?_eq_getElem hk', Option.getD_some]
    have := bounds_u8 (hwz zs[k] (List.getElem_mem hk'))
    obtain ⟨m, hm'⟩ : ∃ m : Nat, zs[k] = m := ⟨zs[k].toNat, by omega⟩
    rw [hm']
    show _ = some (Value.int .u8 ((UInt8.ofNat (Int.toNat (m : Int))).toNat : Int))
    rw [Int.toNat_natCast, UInt8.toNat_ofNat_of_lt' (by show m < 256; omega)]
set_option maxRecDepth 100000 in
theorem open_made {W : World} {fuel : Nat} {cs : List Value} {x : DataW H × List MemPlace} (h : DataW.trod enc Tryd.prog W 0 (fun _ => true) true fuel 128 cs = some x) : ∃ m : Md, cs = mdCells m ∧ MdOk W m := by
  obtain ⟨xs, n, _, _, hcl, hxl, hg⟩ := DataW.trod_struct Tryd.underlying128 h
  rw [cells128] at hcl
  match cs, hcl with
  | [v0, v1, v2, v3, v4, v5], _ =>
    have g0 : DataW.trod enc Tryd.prog W 0 (fun _ => true) true n 5 (([v0, v1, v2, v3, v4, v5].drop 0).take (Tryd.prog.cellsOf 5)) = xs[0]? := hg 0 _ rfl
    have g1 : DataW.trod enc Tryd.prog W 0 (fun _ => true) true n 5 (([v0, v1, v2, v3, v4, v5].drop 1).take (Tryd.prog.cellsOf 5)) = xs[1]? := hg 1 _ rfl
    have g2 : DataW.trod enc Tryd.prog W 0 (fun _ => true) true n 5 (([v0, v1, v2, v3, v4, v5].drop 2).take (Tryd.prog.cellsOf 5)) = xs[2]? := hg 2 _ rfl
    have g3 : DataW.trod enc Tryd.prog W 0 (fun _ => true) true n 37 (([v0, v1, v2, v3, v4, v5].drop 3).take (Tryd.prog.cellsOf 37)) = xs[3]? := hg 3 _ rfl
    have g4 : DataW.trod enc Tryd.prog W 0 (fun _ => true) true n 4 (([v0, v1, v2, v3, v4, v5].drop 4).take (Tryd.prog.cellsOf 4)) = xs[4]? := hg 4 _ rfl
    have g5 : DataW.trod enc Tryd.prog W 0 (fun _ => true) true n 60 (([v0, v1, v2, v3, v4, v5].drop 5).take (Tryd.prog.cellsOf 60)) = xs[5]? := hg 5 _ rfl
    rw [cells5] at g0 g1 g2
    rw [cells37] at g3
    rw [cells4] at g4
    rw [cells60] at g5
    have hx6 : xs.length = 6 := hxl
    replace g0 : DataW.trod enc Tryd.prog W 0 (fun _ => true) true n 5 [v0] = some (xs[0]'(by omega)) := by rw [List.getElem?_eq_getElem (by omega)] at g0; exact g0
    replace g1 : DataW.trod enc Tryd.prog W 0 (fun _ => true) true n 5 [v1] = some (xs[1]'(by omega)) := by rw [List.getElem?_eq_getElem (by omega)] at g1; exact g1
    replace g2 : DataW.trod enc Tryd.prog W 0 (fun _ => true) true n 5 [v2] = some (xs[2]'(by omega)) := by rw [List.getElem?_eq_getElem (by omega)] at g2; exact g2
    replace g3 : DataW.trod enc Tryd.prog W 0 (fun _ => true) true n 37 [v3] = some (xs[3]'(by omega)) := by rw [List.getElem?_eq_getElem (by omega)] at g3; exact g3
    replace g4 : DataW.trod enc Tryd.prog W 0 (fun _ => true) true n 4 [v4] = some (xs[4]'(by omega)) := by rw [List.getElem?_eq_getElem (by omega)] at g4; exact g4
    replace g5 : DataW.trod enc Tryd.prog W 0 (fun _ => true) true n 60 [v5] = some (xs[5]'(by omega)) := by rw [List.getElem?_eq_getElem (by omega)] at g5; exact g5
    obtain ⟨n0, e0, _, w0⟩ := DataW.trod_int Tryd.underlying5 g0
    obtain ⟨n1, e1, _, w1⟩ := DataW.trod_int Tryd.underlying5 g1
    obtain ⟨n2, e2, _, w2⟩ := DataW.trod_int Tryd.underlying5 g2
    obtain ⟨k0, rfl⟩ := byte_of w0
    obtain ⟨k1, rfl⟩ := byte_of w1
    obtain ⟨k2, rfl⟩ := byte_of w2
    obtain rfl : v0 = vb k0 := by simpa using e0
    obtain rfl : v1 = vb k1 := by simpa using e1
    obtain rfl : v2 = vb k2 := by simpa using e2
    obtain ⟨DA, dc, bs, rfl, hd1, hd2, hd3, hd4⟩ := open_bys g3
    obtain ⟨rb, e4, _⟩ := DataW.trod_bool Tryd.underlying4 g4
    obtain rfl : v4 = .bool rb := by simpa using e4
    obtain ⟨st, e5, hst⟩ := trod_float Tryd.underlying60 g5
    obtain rfl : v5 = .float .f64 st := by simpa using e5
    exact ⟨⟨k0, k1, k2, DA, dc, bs, rb, st⟩, rfl, ⟨hd4, hd3, hd2, hd1, hst⟩⟩
set_option maxRecDepth 100000 in
/-- a list of Made in a cell that came in -/
theorem open_mades_at {W : World} {fuel : Nat} {v : Value} {x : DataW H × List MemPlace} (h : DataW.trod enc Tryd.prog W 0 (fun _ => true) true fuel 72 [v] = some x) :
    ∃ A cap, ∃ l : List Md, v = .slice A l.length cap ∧ Mades W W.heap.size A l ∧ l.length ≤ cap ∧ cap ≤ maxLen := by
  rcases open_slice Tryd.underlying72 h with ⟨hcs, _⟩ | ⟨a, n, cap, m, f, D, Pl, hcs, _, hl, hm, hmm, _, hi⟩
  · obtain rfl : v = .slice none 0 0 := by simpa using hcs
    exact ⟨none, 0, [], rfl, ⟨fun h => absurd h (by simp), (fun m hm => by cases hm), (fun m hm => by cases hm), Nat.le_refl _⟩, by simp, by unfold maxLen; omega⟩
  · obtain rfl : v = .slice (some a) n cap := by simpa using hcs
    simp only [if_true] at hmm
    rw [cells128] at hi
    have key : ∀ i, i < n → ∃ it : Md, (∀ j u, (mdCells it)[j]? = some u → W.cell? ((a.add (i * 6)).add j) = some u) ∧ MdOk W it := by
      intro i hin
      obtain ⟨cs, hc, ht⟩ := hi i (by omega)
      obtain ⟨it, rfl, hok⟩ := open_made ht
      obtain ⟨_, hcl, hat⟩ := World.cells?_some hc
      refine ⟨it, fun j u hj => ?_, hok⟩
      have hjl : j < 6 := by have := (List.getElem?_eq_some_iff.1 hj).1; simpa [mdCells] using this
      rw [hat j hjl, hj]
    obtain ⟨its, rfl, hits⟩ := list_of n key
    have hev : ∀ m ∈ its, MdOk W m := fun m hm => by obtain ⟨i, hi', rfl⟩ := List.getElem_of_mem hm; exact (hits i hi').2
    refine ⟨some a, cap, its, rfl, ⟨fun h0 => ?_, hev, fun m hm => (hev m hm).dsrc.lt, Nat.le_refl _⟩, by omega, by omega⟩
    obtain ⟨b, off, spot⟩ := a
    have c0 := (hits 0 h0).1 0 _ rfl
    have hspot : spot = none := by simpa [Addr.add] using World.cell?_spot c0
    subst hspot
    refine ⟨b, off, rfl, ?_, fun i h j u hj => ?_⟩
    · have := block_of_cell c0; simpa [Addr.add_mid] using this
    · have := (hits i h).1 j u hj
      rwa [Addr.add_mid, Addr.add_mid] at this
set_option maxRecDepth 100000 in
/-- lists of lists of Made that came in -/
theorem open_trees {W : World} {base : Nat} {v : Value} {d : DataW H} {ps : List MemPlace} (hv : Value.okWide Tryd.prog W .any base 22 v) (h : DataW.Trod enc Tryd.prog W 0 (fun _ => true) true 22 v d ps) :
    ∃ (A : Option Addr) (cap : Nat) (tt : List (List Md)), v = .slice A tt.length cap ∧ tt.length ≤ maxLen ∧ TreesIs W W.heap.size A tt := by
  obtain ⟨A, n, cap, rfl⟩ := okWide_slice Tryd.underlying22 hv
  obtain ⟨fuel, hf⟩ := h
  rcases open_slice1 Tryd.underlying22 cells72 hf with ⟨hcs, _⟩ | ⟨a, len, cap', m, f, V, D, Pl, hcs, _, hl, hm, hmm, _, hi⟩
  · simp [Value.cells] at hcs
    obtain ⟨rfl, rfl, rfl⟩ := hcs
    exact ⟨none, 0, [], rfl, by unfold maxLen; simp, ⟨fun h => absurd h (by simp), Nat.le_refl _⟩⟩
  · simp [Value.cells] at hcs
    obtain ⟨rfl, rfl, rfl⟩ := hcs
    simp only [if_true] at hmm
    have key : ∀ i, i < n → ∃ l : List Md, ∃ A' c', W.cell? (a.add i) = some (.slice A' l.length c') ∧ Mades W W.heap.size A' l ∧ l.length ≤ c' ∧ c' ≤ maxLen := by
      intro i hin
      obtain ⟨hc, ht⟩ := hi i (by omega)
      obtain ⟨A', c', l, hv', h1, h2, h3⟩ := open_mades_at ht
      exact ⟨l, A', c', by rw [hc, hv'], h1, h2, h3⟩
    obtain ⟨tt, rfl, htt⟩ := list_of n key
    refine ⟨some a, cap, tt, rfl, by omega, ⟨fun h0 => ?_, Nat.le_refl _⟩⟩
    obtain ⟨b, off, spot⟩ := a
    obtain ⟨A0, c0, k0, -⟩ := htt 0 h0
    have hspot : spot = none := by simpa [Addr.add] using World.cell?_spot k0
    subst hspot
    refine ⟨b, off, rfl, ?_, fun i h => ?_⟩
    · have := block_of_cell k0; simpa [Addr.add_mid] using this
    · obtain ⟨A', c', k, h1⟩ := htt i h
      rw [Addr.add_mid] at k
      exact ⟨A', c', k, h1⟩
/-- an Ask, by its five bytes -/
structure AskV where
  kind : By
  name : By
  file : By
  path : By
  more : By
def AskV.cells (x : AskV) : List Value := [vb x.kind, vb x.name, vb x.file, vb x.path, vb x.more]
set_option maxRecDepth 100000 in
theorem open_ask_at {W : World} {fuel : Nat} {cs : List Value} {x : DataW H × List MemPlace} (h : DataW.trod enc Tryd.prog W 0 (fun _ => true) true fuel 25 cs = some x) : ∃ m : AskV, cs = m.cells := by
  obtain ⟨xs, n, _, _, hcl, hxl, hg⟩ := DataW.trod_struct Tryd.underlying25 h
  rw [cells25] at hcl
  match cs, hcl with
  | [v0, v1, v2, v3, v4], _ =>
    have g0 : DataW.trod enc Tryd.prog W 0 (fun _ => true) true n 5 (([v0, v1, v2, v3, v4].drop 0).take (Tryd.prog.cellsOf 5)) = xs[0]? := hg 0 _ rfl
    have g1 : DataW.trod enc Tryd.prog W 0 (fun _ => true) true n 5 (([v0, v1, v2, v3, v4].drop 1).take (Tryd.prog.cellsOf 5)) = xs[1]? := hg 1 _ rfl
    have g2 : DataW.trod enc Tryd.prog W 0 (fun _ => true) true n 5 (([v0, v1, v2, v3, v4].drop 2).take (Tryd.prog.cellsOf 5)) = xs[2]? := hg 2 _ rfl
    have g3 : DataW.trod enc Tryd.prog W 0 (fun _ => true) true n 5 (([v0, v1, v2, v3, v4].drop 3).take (Tryd.prog.cellsOf 5)) = xs[3]? := hg 3 _ rfl
    have g4 : DataW.trod enc Tryd.prog W 0 (fun _ => true) true n 5 (([v0, v1, v2, v3, v4].drop 4).take (Tryd.prog.cellsOf 5)) = xs[4]? := hg 4 _ rfl
    rw [cells5] at g0 g1 g2 g3 g4
    have hx6 : xs.length = 5 := hxl
    replace g0 : DataW.trod enc Tryd.prog W 0 (fun _ => true) true n 5 [v0] = some (xs[0]'(by omega)) := by rw [List.getElem?_eq_getElem (by omega)] at g0; exact g0
    replace g1 : DataW.trod enc Tryd.prog W 0 (fun _ => true) true n 5 [v1] = some (xs[1]'(by omega)) := by rw [List.getElem?_eq_getElem (by omega)] at g1; exact g1
    replace g2 : DataW.trod enc Tryd.prog W 0 (fun _ => true) true n 5 [v2] = some (xs[2]'(by omega)) := by rw [List.getElem?_eq_getElem (by omega)] at g2; exact g2
    replace g3 : DataW.trod enc Tryd.prog W 0 (fun _ => true) true n 5 [v3] = some (xs[3]'(by omega)) := by rw [List.getElem?_eq_getElem (by omega)] at g3; exact g3
    replace g4 : DataW.trod enc Tryd.prog W 0 (fun _ => true) true n 5 [v4] = some (xs[4]'(by omega)) := by rw [List.getElem?_eq_getElem (by omega)] at g4; exact g4
    obtain ⟨n0, e0, _, w0⟩ := DataW.trod_int Tryd.underlying5 g0
    obtain ⟨n1, e1, _, w1⟩ := DataW.trod_int Tryd.underlying5 g1
    obtain ⟨n2, e2, _, w2⟩ := DataW.trod_int Tryd.underlying5 g2
    obtain ⟨n3, e3, _, w3⟩ := DataW.trod_int Tryd.underlying5 g3
    obtain ⟨n4, e4, _, w4⟩ := DataW.trod_int Tryd.underlying5 g4
    obtain ⟨k0, rfl⟩ := byte_of w0
    obtain ⟨k1, rfl⟩ := byte_of w1
    obtain ⟨k2, rfl⟩ := byte_of w2
    obtain ⟨k3, rfl⟩ := byte_of w3
    obtain ⟨k4, rfl⟩ := byte_of w4
    obtain rfl : v0 = vb k0 := by simpa using e0
    obtain rfl : v1 = vb k1 := by simpa using e1
    obtain rfl : v2 = vb k2 := by simpa using e2
    obtain rfl : v3 = vb k3 := by simpa using e3
    obtain rfl : v4 = vb k4 := by simpa using e4
    exact ⟨⟨k0, k1, k2, k3, k4⟩, rfl⟩
set_option maxRecDepth 100000 in
/-- an Ask that came in -/
theorem open_ask {W : World} {base : Nat} {v : Value} {d : DataW H} {ps : List MemPlace} (hv : Value.okWide Tryd.prog W .any base 25 v) (h : DataW.Trod enc Tryd.prog W 0 (fun _ => true) true 25 v d ps) :
    ∃ x : AskV, v = .agg #[vb x.kind, vb x.name, vb x.file, vb x.path, vb x.more] := by
  obtain ⟨cs, rfl, hsz⟩ := okWide_struct Tryd.underlying25 hv
  obtain ⟨fuel, hf⟩ := h
  obtain ⟨m, hm⟩ := open_ask_at hf
  refine ⟨m, ?_⟩
  have : cs.toList = m.cells := hm
  obtain ⟨l⟩ := cs
  simp only at this
  rw [this]; rfl
end
end Go.Proofs.YtggmogjgaoobjaaDoor

/- Whether lists of Made have not too much: the law's small. -/
namespace Go.Proofs.YtggmogjgaoobjaaDoor
open Go.RowKit RealMath BaseMath WireMath ReqMath PackMath
open TreeMath hiding By
def smallOk (tt : List (List Md)) : Prop := tt.length ≤ 3 ∧ ∀ l ∈ tt, l.length ≤ 6 ∧ ∀ x ∈ l, x.data.length ≤ 200
set_option maxHeartbeats 4000000 in
set_option maxRecDepth 100000 in
theorem small11_any (A : Option Addr) (c B : Nat) (tt : List (List Md)) (hl : tt.length ≤ maxLen) (w : World) (h : TreesIs w B A tt) :
    Calls Tryd.prog 11 #[.slice A tt.length c] w fun e w' => ∃ b, e = .returned (.bool b) ∧ (b = true → smallOk tt) ∧ Below w.heap.size w w' := by
  have H := Lib.hid h
  clear h
  unfold maxLen at hl
  go_enter Tryd.func11, Tryd.ntmps11
  go_wp2_with fail
  go_loopw [3] (fun vv wr => ∃ i : Nat, i ≤ tt.length ∧ vv = .int .i64 i ∧ w = wr ∧ Hid (∀ j (hj : j < tt.length), j < i → tt[j].length ≤ 6 ∧ ∀ x ∈ tt[j], x.data.length ≤ 200)) (fun vv _ => tt.length - (intOf vv).toNat)
  case atStart => exact ⟨0, Nat.zero_le _, rfl, rfl, fun j _ h => absurd h (by omega)⟩
  case round =>
    obtain ⟨i, hi, rfl, rfl, HG⟩ := hrel
    by_cases hlt : i < tt.length
    · have hlt' : (i : Int) < (tt.length : Int) := by omega
      obtain ⟨b, o, rfl, hbl, hc⟩ := H.out.at_ (by omega)
      obtain ⟨A', c', c0, hm, hlc, hcm⟩ := hc i hlt
      have HM := Lib.hid hm
      have HN : Hid ((tt[i].length ≤ 6 ∧ ∀ x ∈ tt[i], x.data.length ≤ 200) → ∀ j (hj : j < tt.length), j < i + 1 → tt[j].length ≤ 6 ∧ ∀ x ∈ tt[j], x.data.length ≤ 200) := fun hh j hj hji => by
        by_cases e : j < i
        · exact HG.out j hj e
        · obtain rfl : j = i := by omega
          exact hh
      clear hc hm HG
      generalize tt[i] = l at *
      by_cases h6 : 6 < l.length
      · have h6' : (6 : Int) < (l.length : Int) := by omega
        go_wp2_with fail
        go_ret
        exact ⟨false, rfl, (fun e => by cases e), Below.refl _ _⟩
      · have h6' : ¬ ((6 : Int) < (l.length : Int)) := by omega
        have hlm : l.length ≤ maxLen := by unfold maxLen; omega
        go_wp2_with fail
        refine (small_any A' c' B l hlm w HM.out).mono ?_
        rintro e w1 ⟨rfl, rfl⟩
        have HS : Hid (smallB l = true → ∀ x ∈ l, x.data.length ≤ 200) := fun e => by
          unfold smallB at e
          simp at e
          exact e.1
        generalize smallB l = sb at *
        cases sb with
        | false =>
          go_wp2_with fail
          go_ret
          exact ⟨false, rfl, (fun e => by cases e), Below.refl _ _⟩
        | true =>
          have HN2 := Lib.hid (HN.out ⟨by omega, HS.out rfl⟩)
          go_wp2_with fail
          go_roundw
          case rel => exact ⟨i + 1, by omega, by go_num, trivial, HN2.out⟩
          case measure => simp [intOf]; omega
    · obtain rfl : i = tt.length := by omega
      go_wp2_with fail
      go_ret
      refine ⟨decide ((tt.length : Int) ≤ 3), rfl, fun e => ⟨by have := of_decide_eq_true e; omega, fun l hl => ?_⟩, Below.refl _ _⟩
      obtain ⟨j, hj, rfl⟩ := List.getElem_of_mem hl
      exact HG.out j hj hj
end Go.Proofs.YtggmogjgaoobjaaDoor

/- Some of a world's paths; the request of an Ask. -/
namespace Go.Proofs.YtggmogjgaoobjaaDoor
open Go.RowKit RealMath BaseMath WireMath ReqMath PackMath
open TreeMath hiding By
set_option maxRecDepth 100000 in
theorem rest_nat (a n : Nat) (hn : 0 < n) : ∃ j : Nat, j < n ∧ ((a : Int) % (n : Int)) = (j : Int) ∧ Int.tmod (a : Int) (n : Int) = (j : Int) := by
  refine ⟨a % n, Nat.mod_lt _ hn, by rw [Int.natCast_emod], ?_⟩
  rw [Int.tmod_eq_emod_of_nonneg (by omega), Int.natCast_emod]
set_option maxHeartbeats 8000000 in
set_option maxRecDepth 100000 in
theorem some_any (v : Value) (f m : Nat) (hf : f ≤ 300) (hm : m ≤ 16) (w : World) (h : WorldIs w v) :
    Calls Tryd.prog 37 #[v, .int .i64 f, .int .i64 m] w fun e w' => ∃ (l : List (List UInt8)) (v' : Value), e = .returned v' ∧ l.length ≤ m ∧ (∀ x ∈ l, x.length ≤ 100) ∧ w'.ownsRow (w.heap.size + 1) 9 1 v' l.length (l.map vs) ∧ Below w.heap.size w w' := by
  obtain ⟨hv, kv, g, ca, cells, nb, PV, cp, paths, rfl, hc0, hc30, hc, har, hns, hp0, hp30, hps, hpl⟩ := h
  have HPS := Lib.hid hps; have HPL := Lib.hid hpl
  clear hc har hns hps hpl
  go_enter Tryd.func37, Tryd.ntmps37
  have HBX : Hid (Blk (w.alloc (.cells #[hv, kv, .slice (some ⟨g, 0, none⟩) cells.length ca, .slice (some ⟨nb, 0, none⟩) 3 3, .slice PV paths.length cp] 34)) w.heap.size 34 [hv, kv, .slice (some ⟨g, 0, none⟩) cells.length ca, .slice (some ⟨nb, 0, none⟩) 3 3, .slice PV paths.length cp]) := Blk.new w 34 _
  have HB1 : Hid (Below w.heap.size w (w.alloc (.cells #[hv, kv, .slice (some ⟨g, 0, none⟩) cells.length ca, .slice (some ⟨nb, 0, none⟩) 3 3, .slice PV paths.length cp] 34))) := (Below.refl _ _).alloc (Nat.le_refl _) _
  have hs1 : (w.alloc (.cells #[hv, kv, .slice (some ⟨g, 0, none⟩) cells.length ca, .slice (some ⟨nb, 0, none⟩) 3 3, .slice PV paths.length cp] 34)).heap.size = w.heap.size + 1 := by simp
  obtain ⟨pb, po, rfl, hpc⟩ := HPS.out hp0
  have HPC := Lib.hid hpc
  have hpb : pb < w.heap.size := block_of_cell (hpc 0 hp0)
  clear hpc HPS
  go_wp2_with fail
  generalize w.alloc (.cells #[hv, kv, .slice (some ⟨g, 0, none⟩) cells.length ca, .slice (some ⟨nb, 0, none⟩) 3 3, .slice (some ⟨pb, po, none⟩) paths.length cp] 34) = w1 at *
  go_loopw [7, 8] (fun vl vv wr => ∃ i : Nat, i ≤ m ∧ vv = .int .i64 i ∧ Hid (∃ l : List (List UInt8), l.length = i ∧ (∀ x ∈ l, x.length ≤ 100) ∧ wr.ownsRow (w.heap.size + 1) 9 1 vl i (l.map vs) ∧ Below (w.heap.size + 1) w1 wr)) (fun _ vv _ => m - (intOf vv).toNat)
  case atStart => exact ⟨0, Nat.zero_le _, rfl, [], rfl, (fun x hx => by cases hx), World.ownsRow_nil _ _ _ _, Below.refl _ _⟩
  case round =>
    obtain ⟨i, hi, rfl, HXX⟩ := hrel
    rename World => W0
    obtain ⟨l, hll, hlx, hown, hbe⟩ := HXX.out
    obtain ⟨O1, oc, hv1⟩ := own_form hown
    subst hv1
    have HOWN := Lib.hid hown; have HBE := Lib.hid hbe; have HLX := Lib.hid hlx; have HLL := Lib.hid hll
    have hBX := Blk.below HBX.out hbe (by omega)
    have HBX0 := Lib.hid hBX
    have b4 := Blk.cell hBX 4
    simp only [List.getElem?_cons_zero, List.getElem?_cons_succ] at b4
    have hW0 : w.heap.size + 1 ≤ W0.heap.size := by have := hbe.size; omega
    have HBW : Hid (Below w.heap.size w W0) := HB1.out.trans (hbe.mono (by omega))
    clear HXX hown hbe hlx hBX
    by_cases hlt : i < m ∧ i < paths.length
    · have h1 : (i : Int) < (m : Int) := by omega
      have h2 : (i : Int) < (paths.length : Int) := by omega
      obtain ⟨j, hj, hj1, hj2⟩ := rest_nat (f + i) paths.length hp0
      have hj0 : (0 : Int) ≤ (j : Int) := by omega
      have hj3 : (j : Int) < (paths.length : Int) := by omega
      have hnz : ((paths.length : Int) == 0) = false := by rw [beq_eq_false_iff_ne]; omega
      rw [Int.natCast_add] at hj1 hj2
      have hpe : ¬ paths = [] := fun e => by rw [e] at hp0; cases hp0
      have hwr : IntKind.i64.wrap ((f : Int) + (i : Int)) = (f : Int) + (i : Int) := by simp [IntKind.wrap, IntKind.signed, IntKind.bits]; omega
      have c0 : W0.cell? ⟨pb, po + j, none⟩ = some (vs paths[j]) := by rw [HBW.out.cell (p := ⟨pb, po + j, none⟩) hpb]; exact HPC.out j hj
      have HJL := Lib.hid (HPL.out paths[j] (List.getElem_mem hj))
      generalize paths[j] = t at *
      have q0 : W0.drew.cell? ⟨w.heap.size, 4, none⟩ = some (.slice (some ⟨pb, po, none⟩) paths.length cp) ∧ W0.drew.cell? ⟨pb, po + j, none⟩ = some (vs t) := ⟨b4, c0⟩
      go_upto_region 5 with fail
      clear c0
      refine Late.region_X (fun W' => W'.cell? ⟨w.heap.size, 4, none⟩ = some (.slice (some ⟨pb, po, none⟩) paths.length cp) ∧ W'.cell? ⟨pb, po + j, none⟩ = some (vs t)) [] (by kernel_rfl) ?_
      have HOWN3 : Hid (World.ownsRow W0.drew (w.heap.size + 1) 9 1 (.slice O1 i oc) i (l.map vs)) := HOWN.out
      have HBE3 : Hid (Below (w.heap.size + 1) w1 W0.drew) := HBE.out.drew
      have hW3 : w.heap.size + 1 ≤ W0.drew.heap.size := hW0
      generalize W0.drew = W3 at *
      refine Late.take_X (f := 15) (i := 0) (v := ?_) rfl (by kernel_rfl) (by kernel_rfl) (by kernel_rfl) (by kernel_rfl) (by kernel_rfl) (fun _ _ _ h => h) (by rfl) ?_ q0 ?_
      rotate_left
      · intro w hw
        obtain ⟨s1, s2⟩ := hw
        go_simp
        with_reducible rfl
      refine Late.take_X (f := 15) (i := 1) (v := ?_) rfl (by kernel_rfl) (by kernel_rfl) (by kernel_rfl) (by kernel_rfl) (by kernel_rfl) (fun _ _ _ h => h) (by rfl) ?_ q0 ?_
      rotate_left
      · intro w hw
        obtain ⟨s1, s2⟩ := hw
        go_simp
        with_reducible rfl
      refine Late.take_X (f := 15) (i := 2) (v := ?_) rfl (by kernel_rfl) (by kernel_rfl) (by kernel_rfl) (by kernel_rfl) (by kernel_rfl) (fun _ _ _ h => h) (by rfl) ?_ q0 ?_
      rotate_left
      · intro w hw
        obtain ⟨s1, s2⟩ := hw
        go_simp
        with_reducible rfl
      refine Late.take_X (f := 15) (i := 3) (v := ?_) rfl (by kernel_rfl) (by kernel_rfl) (by kernel_rfl) (by kernel_rfl) (by kernel_rfl) (fun _ _ _ h => h) (by rfl) ?_ q0 ?_
      rotate_left
      · intro w hw
        obtain ⟨s1, s2⟩ := hw
        go_simp
        with_reducible rfl
      refine Late.take_X (f := 15) (i := 4) (v := ?_) rfl (by kernel_rfl) (by kernel_rfl) (by kernel_rfl) (by kernel_rfl) (by kernel_rfl) (fun _ _ _ h => h) (by rfl) ?_ q0 ?_
      rotate_left
      · intro w hw
        obtain ⟨s1, s2⟩ := hw
        go_simp
        with_reducible rfl
      refine Late.take_X (f := 15) (i := 5) (v := ?_) rfl (by kernel_rfl) (by kernel_rfl) (by kernel_rfl) (by kernel_rfl) (by kernel_rfl) (fun _ _ _ h => h) (by rfl) ?_ q0 ?_
      rotate_left
      · intro w hw
        obtain ⟨s1, s2⟩ := hw
        go_simp
        with_reducible rfl
      refine Late.take_X (f := 15) (i := 6) (v := ?_) rfl (by kernel_rfl) (by kernel_rfl) (by kernel_rfl) (by kernel_rfl) (by kernel_rfl) (fun _ _ _ h => h) (by rfl) ?_ q0 ?_
      rotate_left
      · intro w hw
        obtain ⟨s1, s2⟩ := hw
        go_simp
        with_reducible rfl
      refine Late.take_X (f := 15) (i := 7) (v := ?_) rfl (by kernel_rfl) (by kernel_rfl) (by kernel_rfl) (by kernel_rfl) (by kernel_rfl) (fun _ _ _ h => h) (by rfl) ?_ q0 ?_
      rotate_left
      · intro w hw
        obtain ⟨s1, s2⟩ := hw
        go_simp
        with_reducible rfl
      refine Late.take_X (f := 15) (i := 8) (v := ?_) rfl (by kernel_rfl) (by kernel_rfl) (by kernel_rfl) (by kernel_rfl) (by kernel_rfl) (fun _ _ _ h => h) (by rfl) ?_ q0 ?_
      rotate_left
      · intro w hw
        obtain ⟨s1, s2⟩ := hw
        go_simp
        with_reducible rfl
      refine Late.take_X (f := 15) (i := 9) (v := .int .i64 j) rfl (by kernel_rfl) (by kernel_rfl) (by kernel_rfl) (by kernel_rfl) (by kernel_rfl) (fun _ _ _ h => h) (by rfl) ?_ q0 ?_
      · intro w hw
        go_simp
      refine Late.take_X (f := 15) (i := 10) (v := ?_) rfl (by kernel_rfl) (by kernel_rfl) (by kernel_rfl) (by kernel_rfl) (by kernel_rfl) (fun _ _ _ h => h) (by rfl) ?_ q0 ?_
      rotate_left
      · intro w hw
        obtain ⟨s1, s2⟩ := hw
        go_simp
        with_reducible rfl
      refine Late.take_X (f := 15) (i := 11) (v := ?_) rfl (by kernel_rfl) (by kernel_rfl) (by kernel_rfl) (by kernel_rfl) (by kernel_rfl) (fun _ _ _ h => h) (by rfl) ?_ q0 ?_
      rotate_left
      · intro w hw
        obtain ⟨s1, s2⟩ := hw
        go_simp
        with_reducible rfl
      have hal : Below W3.heap.size W3 (W3.alloc (.cells #[vs t] 9)) := (Below.refl _ _).alloc (Nat.le_refl _) _
      have hown5 : World.ownsRow (W3.alloc (.cells #[vs t] 9)) (w.heap.size + 1) 9 1 (.slice O1 i oc) i (l.map vs) := ownsRow_keepG HOWN3.out (fun c hc => hal.block c (HOWN3.out.lt c hc).2)
      have q5 : (W3.alloc (.cells #[vs t] 9)).cell? ⟨w.heap.size, 4, none⟩ = some (.slice (some ⟨pb, po, none⟩) paths.length cp) ∧ (W3.alloc (.cells #[vs t] 9)).cell? ⟨pb, po + j, none⟩ = some (vs t) := ⟨by rw [hal.cell (p := ⟨w.heap.size, 4, none⟩) (by simp only; omega)]; exact q0.1, by rw [hal.cell (p := ⟨pb, po + j, none⟩) (by simp only; omega)]; exact q0.2⟩
      have hbe5 : Below (w.heap.size + 1) w1 (W3.alloc (.cells #[vs t] 9)) := HBE3.out.alloc hW3 _
      have HOWN5 := Lib.hid hown5; have Q5 := Lib.hid q5; have HBE5 := Lib.hid hbe5
      have hs5 : w.heap.size + 1 ≤ (W3.alloc (.cells #[vs t] 9)).heap.size := by simp; omega
      have HS5 := Lib.hid hs5
      clear hal hown5 q5 hbe5 HOWN3 HBE3 q0 hs5
      refine Late.ready_X (rs := [12]) (by kernel_rfl) (by simp) ?_
      refine Late.AllX.cons rfl (fun K' hK => ?_) Late.AllX.nil
      go_simp
      refine hK.out _ _ (fun _ => Q5.out) ?_
      refine Late.ready_X (rs := [13]) (by kernel_rfl) (by simp) ?_
      refine Late.AllX.cons rfl (fun K' hK => ?_) Late.AllX.nil
      rw [if_pos (by rfl)]
      obtain ⟨i9, hi9, hz0, hz1, hz2⟩ := info_parts info9
      refine wp_append_own _ (.tmp 21) (.tmp 33) 32 rfl (w.heap.size + 1) 9 i9 (.string ⟨#[]⟩) 1 16 Tryd.underlying32 hi9 hz0 hz1 hz2 rfl (by decide) (.slice O1 i oc) i (l.map vs) rfl HOWN5.out ⟨W3.heap.size, 0, none⟩ 1 1 [vs t] rfl rfl (new_cells W3 9 [vs t]) (by simp [Value.oneCell']) (by unfold maxLen; omega) (by omega) HS5.out ?_
      intro v6 w6 ho6 hg6 _
      have hbl6 : Below (w.heap.size + 1) (W3.alloc (.cells #[vs t] 9)) w6 := (Below.refl (w.heap.size + 1) _).grown hg6 HS5.out (fun c hc => (HOWN5.out.lt c hc).1)
      have q6 : w6.cell? ⟨w.heap.size, 4, none⟩ = some (.slice (some ⟨pb, po, none⟩) paths.length cp) ∧ w6.cell? ⟨pb, po + j, none⟩ = some (vs t) := ⟨by rw [hbl6.cell (p := ⟨w.heap.size, 4, none⟩) (by simp only; omega)]; exact Q5.out.1, by rw [hbl6.cell (p := ⟨pb, po + j, none⟩) (by simp only; omega)]; exact Q5.out.2⟩
      have HX2 : Hid (∃ l : List (List UInt8), l.length = i + 1 ∧ (∀ x ∈ l, x.length ≤ 100) ∧ w6.ownsRow (w.heap.size + 1) 9 1 v6 (i + 1) (l.map vs) ∧ Below (w.heap.size + 1) w1 w6) := by
        refine ⟨l ++ [t], by simp [HLL.out], fun x hx => ?_, by rw [List.map_append]; exact ho6, HBE5.out.trans hbl6⟩
        rcases List.mem_append.1 hx with hx | hx
        · exact HLX.out x hx
        · obtain rfl : x = t := by simpa using hx
          exact HJL.out
      have Q6 := Lib.hid q6
      clear ho6 hg6 hbl6 q6 hi9 hz0 hz1 hz2
      refine hK.out _ _ (fun _ => Q6.out) ?_
      refine Late.ready_X (rs := [14]) (by kernel_rfl) (by simp) ?_
      refine Late.AllX.cons rfl (fun K' hK => ?_) Late.AllX.nil
      go_simp
      refine hK.out _ _ (fun _ => Q6.out) ?_
      refine Late.done_X (by kernel_rfl) ?_ _
      try (simp only [])
      go_wp2_with fail
      go_roundw
      case rel => exact ⟨i + 1, by omega, by go_num, HX2.out⟩
      case measure => simp [intOf]; omega
    · have h12 : (¬ (i : Int) < (m : Int)) ∨ ((i : Int) < (m : Int) ∧ ¬ ((i : Int) < (paths.length : Int))) := by omega
      rcases h12 with h12 | ⟨h12, h13⟩
      all_goals
        go_wp2_with fail
        go_ret
        exact ⟨l, _, rfl, by rw [HLL.out]; exact hi, HLX.out, by rw [HLL.out]; exact HOWN.out, HBW.out⟩
end Go.Proofs.YtggmogjgaoobjaaDoor

/- Pick: a path of a world. -/
namespace Go.Proofs.YtggmogjgaoobjaaDoor
open Go.RowKit RealMath BaseMath WireMath ReqMath PackMath
open TreeMath hiding By
set_option maxHeartbeats 8000000 in
set_option maxRecDepth 100000 in
theorem pick_any (v : Value) (n : By) (w : World) (h : WorldIs w v) :
    Calls Tryd.prog 38 #[v, vb n] w fun e w' => (∃ t : List UInt8, e = .returned (vs t) ∧ t.length ≤ 100) ∧ Below w.heap.size w w' := by
  obtain ⟨hv, kv, g, ca, cells, nb, PV, cp, paths, rfl, hc0, hc30, hc, har, hns, hp0, hp30, hps, hpl⟩ := h
  have HPS := Lib.hid hps; have HPL := Lib.hid hpl
  clear hc har hns hps hpl
  go_enter Tryd.func38, Tryd.ntmps38
  have hBX : Blk (w.alloc (.cells #[hv, kv, .slice (some ⟨g, 0, none⟩) cells.length ca, .slice (some ⟨nb, 0, none⟩) 3 3, .slice PV paths.length cp] 34)) w.heap.size 34 [hv, kv, .slice (some ⟨g, 0, none⟩) cells.length ca, .slice (some ⟨nb, 0, none⟩) 3 3, .slice PV paths.length cp] := Blk.new w 34 _
  have HB1 : Hid (Below w.heap.size w (w.alloc (.cells #[hv, kv, .slice (some ⟨g, 0, none⟩) cells.length ca, .slice (some ⟨nb, 0, none⟩) 3 3, .slice PV paths.length cp] 34))) := (Below.refl _ _).alloc (Nat.le_refl _) _
  obtain ⟨pb, po, rfl, hpc⟩ := HPS.out hp0
  have hpb : pb < w.heap.size := block_of_cell (hpc 0 hp0)
  obtain ⟨j, hj, hj1, hj2⟩ := rest_nat n.toNat paths.length hp0
  have hj0 : (0 : Int) ≤ (j : Int) := by omega
  have hj3 : (j : Int) < (paths.length : Int) := by omega
  have hnz : ((paths.length : Int) == 0) = false := by rw [beq_eq_false_iff_ne]; omega
  have hn256 := n.toNat_lt
  have hwr : IntKind.i64.wrap (n.toNat : Int) = (n.toNat : Int) := by simp [IntKind.wrap, IntKind.signed, IntKind.bits]; omega
  have hpe : ¬ paths = [] := fun e => by rw [e] at hp0; cases hp0
  have hwj : IntKind.i64.wrap (j : Int) = (j : Int) := by simp [IntKind.wrap, IntKind.signed, IntKind.bits]; omega
  have b4 := Blk.cell hBX 4
  simp only [List.getElem?_cons_zero, List.getElem?_cons_succ] at b4
  have c0 : (w.alloc (.cells #[hv, kv, .slice (some ⟨g, 0, none⟩) cells.length ca, .slice (some ⟨nb, 0, none⟩) 3 3, .slice (some ⟨pb, po, none⟩) paths.length cp] 34)).cell? ⟨pb, po + j, none⟩ = some (vs paths[j]) := by rw [HB1.out.cell (p := ⟨pb, po + j, none⟩) hpb]; exact hpc j hj
  have hjl := HPL.out paths[j] (List.getElem_mem hj)
  have HJL := Lib.hid hjl
  clear hpc HPS hBX hjl
  generalize paths[j] = t at *
  go_upto_region 1 with fail
  generalize w.alloc (.cells #[hv, kv, .slice (some ⟨g, 0, none⟩) cells.length ca, .slice (some ⟨nb, 0, none⟩) 3 3, .slice (some ⟨pb, po, none⟩) paths.length cp] 34) = w1 at *
  go_region_held3 (fun w' => w'.cell? ⟨w.heap.size, 4, none⟩ = some (.slice (some ⟨pb, po, none⟩) paths.length cp) ∧ w'.cell? ⟨pb, po + j, none⟩ = some (vs t)) (go_keep) (fail)
  all_goals
    go_wp2_with fail
    go_ret
    exact ⟨⟨t, rfl, HJL.out⟩, HB1.out.drew⟩
end Go.Proofs.YtggmogjgaoobjaaDoor

/- The request of an Ask. -/
namespace Go.Proofs.YtggmogjgaoobjaaDoor
open Go.RowKit RealMath BaseMath WireMath ReqMath PackMath
open TreeMath hiding By
/-- what a request of an Ask is like -/
structure ReqGood (r : ReqV) : Prop where
  k1 : 1 ≤ r.kind.toNat
  k2 : r.kind.toNat ≤ 12
  path : r.path.length ≤ 100
  name : r.name.length ≤ 100
  arch : r.arch.length ≤ 80000
  refs : r.refs.length ≤ 16 ∧ ∀ x ∈ r.refs, x.length ≤ 100
  outs : r.outs.length ≤ 4 ∧ ∀ i (h : i < r.outs.length), r.outs[i].name.length ≤ 100 ∧ r.outs[i].arch.length ≤ 80000 ∧ (r.outs[i].refs.length ≤ 16 ∧ ∀ x ∈ r.outs[i].refs, x.length ≤ 100) ∧ r.outs[i].needs.length < 4 ∧ ∀ z ∈ r.outs[i].needs, 0 ≤ z ∧ z < (i : Int)
  some : hasK r.kind.toNat = 4 → 0 < r.outs.length
  canon : canonV r = r
def kindA (k : By) : By := UInt8.ofNat (1 + k.toNat % 12)
theorem kindA_nat (k : By) : (kindA k).toNat = 1 + k.toNat % 12 := by
  unfold kindA; rw [UInt8.toNat_ofNat_of_lt' (by show _ < 256; omega)]
theorem hasK_path (k : By) (h1 : k.toNat ≠ 1) (h7 : k.toNat ≠ 7) (h11 : k.toNat ≠ 11) (h12 : k.toNat ≠ 12) (h0 : 1 ≤ k.toNat) (h13 : k.toNat ≤ 12) : hasK k.toNat = 2 := by
  have : ∀ n, n ≠ 1 → n ≠ 7 → n ≠ 11 → n ≠ 12 → 1 ≤ n → n ≤ 12 → hasK n = 2 := by
    intro n a b c d e f
    have : n = 2 ∨ n = 3 ∨ n = 4 ∨ n = 5 ∨ n = 6 ∨ n = 8 ∨ n = 9 ∨ n = 10 := by omega
    rcases this with h | h | h | h | h | h | h | h <;> (subst h; rfl)
  exact this _ h1 h7 h11 h12 h0 h13
set_option maxRecDepth 100000 in
theorem WorldIs.below {w w' : World} {v : Value} (h : WorldIs w v) (hb : Below w.heap.size w w') : WorldIs w' v := by
  obtain ⟨hv, kv, g, ca, cells, nb, PV, cp, paths, rfl, hc0, hc30, hc, har, hns, hp0, hp30, hps, hpl⟩ := h
  refine ⟨hv, kv, g, ca, cells, nb, PV, cp, paths, rfl, hc0, hc30, fun j hj => ?_, fun c hcc => ?_, hns.belowS hb, hp0, hp30, hps.belowS hb, hpl⟩
  · rw [hb.cell (p := ⟨g, j, none⟩) (block_of_cell (hc j hj))]; exact hc j hj
  · obtain ⟨a, ha⟩ := har c hcc
    exact ⟨a, ha.below hb⟩
def RqPost (w : World) (e : Ending) (w' : World) : Prop := (∃ v r, e = .returned v ∧ ReqIs w' v r ∧ ReqGood r) ∧ Below w.heap.size w w'
end Go.Proofs.YtggmogjgaoobjaaDoor
