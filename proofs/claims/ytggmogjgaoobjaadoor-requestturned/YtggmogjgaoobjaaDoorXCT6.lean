/- What all laws of this seat share: the last step of a row whose law answers true and leaves what was there; the table of kinds out of the row's list; bytes and texts that came in, opened. -/
import Derived.Test.YtggmogjgaoobjaaDoorCards
import Derived.Test.YtggmogjgaoobjaaDoorTie
import Derived.Test.YtggmogjgaoobjaaDoorXCT5
import Derived.ProofKit
import Derived.OpenShut
import Derived.Deep.DeepHandedRow
import Derived.Deep.Strs
import Derived.Lay
import Derived.Carry
import Derived.Lib.LaidTab
import Derived.LaidSub
import Derived.ChangeMaps5
import Derived.Laws.BitsAllLaws
import Derived.Test.YtggmogjgaoobjaaDoorChecked
import Derived.WalkKit
import Derived.WalkSpells
import Derived.WalkLawsBesides
import Derived.BigQuiet
import Derived.Lib.Hide
import Derived.Deep.DeepCutAuto
namespace Go.Proofs.YtggmogjgaoobjaaDoor
open Go.ChangeShapes Go.WideShapes Go.ChangeAt Go.RowKit Go.WideElems Go.ChangeMaps BaseMath WireMath ReqMath

set_option maxRecDepth 100000 in
theorem own : ownKnob Tryd.prog.godebug = none := by kernel_rfl
set_option maxRecDepth 100000 in
theorem cells5 : Tryd.prog.cellsOf 5 = 1 := by kernel_rfl
set_option maxRecDepth 100000 in
theorem laidOut : laidOutB Tryd.prog = true := by kernel_rfl
set_option maxRecDepth 100000 in
theorem gKinds : Tryd.prog.globalNamed "godown/request.kinds" = some 1 := by kernel_rfl
set_option maxRecDepth 100000 in
theorem gKindsType : (Tryd.prog.globals[1]?).map (·.type) = some 138 := by kernel_rfl
set_option maxRecDepth 100000 in
theorem cells138 : Tryd.prog.cellsOf 138 = 26 := by kernel_rfl
set_option maxRecDepth 100000 in
theorem cells92 : Tryd.prog.cellsOf 92 = 2 := by kernel_rfl
set_option maxRecDepth 100000 in
theorem cells9 : Tryd.prog.cellsOf 9 = 1 := by kernel_rfl
set_option maxRecDepth 100000 in
theorem cells90 : Tryd.prog.cellsOf 90 = 1 := by kernel_rfl

/-- the row's list, as all rows of this seat have it -/
def theLaid : List (String × DataW Unit) := Rows.requestKindsRow.laid
def lineK (k : Nat) : DataW Unit := .agg [.lit (.string (nameK k)), .lit (.int .i64 (hasK k : Nat))]
set_option maxRecDepth 100000 in
theorem laid_is : (Rows.laid_godown_request_kinds : DataW Unit) = .agg ((List.range 13).map lineK) := by rfl
set_option maxRecDepth 100000 in
theorem ktab_of {W : World} (h : laidMetH Tryd.prog theLaid W) : KTab W := by
  have h1 : laidMet Tryd.prog [("godown/request.kinds", Rows.laid_godown_request_kinds)] W := h
  obtain ⟨ps, ⟨g', t', cs, fuel, p, q, hg', ht', hvar, hd, _, _⟩, _⟩ := h1
  obtain rfl := Option.some.inj (gKinds.symm.trans hg')
  obtain rfl := Option.some.inj (gKindsType.symm.trans ht')
  obtain ⟨xs, m, rfl, hx, hl, hxl, hf⟩ := DataW.trod_array Tryd.underlying138 hd
  have hx1 : DataW.agg ((List.range 13).map lineK) = .agg (xs.map (·.1)) := by rw [← laid_is]; exact congrArg Prod.fst hx
  have hx2 : (List.range 13).map lineK = xs.map (·.1) := by injection hx1
  intro k hk
  have hfk := hf k hk
  have hxk : (xs.map (·.1))[k]? = some (lineK k) := by rw [← hx2]; simp [hk]
  obtain ⟨y, hy, hy1⟩ : ∃ y, xs[k]? = some y ∧ y.1 = lineK k := by
    rw [List.getElem?_map] at hxk
    exact Option.map_eq_some_iff.1 hxk
  rw [hy, cells92] at hfk
  obtain ⟨y0, y1, n, rfl, hlen, f0, f1⟩ := trod_struct2 Tryd.underlying92 hfk
  obtain ⟨s, hs, hs2, -⟩ := DataW.trod_string Tryd.underlying9 f0
  obtain ⟨z, hz, hz2, -⟩ := DataW.trod_int Tryd.underlying90 f1
  simp only [hs2, hz2, lineK] at hy1
  injection hy1 with hy1
  simp only [List.cons.injEq, DataW.lit.injEq, Lit.string.injEq, Lit.int.injEq, true_and, and_true] at hy1
  obtain ⟨e1, e2⟩ := hy1
  have c0 := World.var?_cell gKinds hvar (k * 2)
  have c1 := World.var?_cell gKinds hvar (k * 2 + 1)
  simp only [cells9, cells90] at hs hz
  have g0 : cs.toList[k * 2]? = some (.string s) := by
    have := congrArg (·[0]?) hs
    simpa [List.getElem?_take, List.getElem?_drop] using this
  have g1 : cs.toList[k * 2 + 1]? = some (.int .i64 z) := by
    have := congrArg (·[0]?) hz
    simpa [List.getElem?_take, List.getElem?_drop] using this
  have hsz : cs.size = 26 := by simpa [cells138] using hl
  constructor
  · rw [c0]
    rw [Array.getElem?_toList] at g0
    rw [g0]
    show some (Value.string s) = some (.string ⟨(nameK k).toArray⟩)
    rw [← e1]
  · rw [c1]
    rw [Array.getElem?_toList] at g1
    rw [g1, e2]

section
variable {H : Type} {enc : TypeId × Value → H}
set_option maxRecDepth 100000 in
/-- THE LAST STEP OF A ROW: the law has answered true; what was read reads as it did. -/
theorem post_law {f : Func} {s : ChangeSpec} {W W' : World} {args : Array Value} {ds : List (DataW H)} {before : List MemPlace}
    (hW : DataW.Whole enc Tryd.prog f.params.toList s.vars false W args.toList ds [] before) (hv : s.vars = []) (ht : f.resultTypes = #[4])
    (hr : (s.fn H (ds ++ [])).results = [.lit (.bool true)]) (ha : (s.fn H (ds ++ [])).args = ds) (hg : (s.fn H (ds ++ [])).vars = [])
    (hargs : DataW.TrodAll enc Tryd.prog W' 0 (fun b => decide (b < W.heap.size)) true f.params.toList args.toList ds before)
    (hb : Below W.heap.size W W') : s.post enc Tryd.prog f false true false false W args (.bool true) W' := by
  refine ⟨ds, [], before, [], before, [], hW, ?_, ?_, ?_, ?_, fun h => by cases h⟩
  · rw [hr, ht]
    exact trodAll_cons_mk (shut_bool Tryd.underlying4 _) trodAll_mk0
  · rw [ha]; exact hargs
  · rw [hg, hv]; rfl
  · exact World.keptBut_mono (fun p hp => ⟨hp, Or.inr (Or.inl hp)⟩) (hb.frame (· ∈ before))

set_option maxRecDepth 100000 in
theorem open_bytes {W : World} {base : Nat} {v : Value} {d : DataW H} {ps : List MemPlace}
    (hv : Value.okWide Tryd.prog W .any base 37 v) (h : DataW.Trod enc Tryd.prog W 0 (fun _ => true) true 37 v d ps) :
    ∃ A cap, ∃ bs : List By, v = .slice A bs.length cap ∧ bs.length ≤ maxLen ∧ bs.length ≤ cap ∧ (A = none → cap = 0) ∧ SrcIs W A bs := by
  obtain ⟨A, n, cap, rfl⟩ := okWide_slice Tryd.underlying37 hv
  obtain ⟨fuel, hf⟩ := h
  rcases open_ints Tryd.underlying37 Tryd.underlying5 cells5 hf with ⟨hcs, hx⟩ | ⟨a, len', cap', zs, hcs, _, hl, hm, hz, hx, hcell, hwz⟩
  · simp [Value.cells] at hcs
    obtain ⟨rfl, rfl, rfl⟩ := hcs
    exact ⟨none, 0, [], rfl, by unfold maxLen; simp, by simp, fun _ => rfl, fun h => absurd h (by simp)⟩
  · simp [Value.cells] at hcs
    obtain ⟨rfl, rfl, rfl⟩ := hcs
    simp only [if_true] at hz
    have hlen : ((zs.take n).map (fun z => UInt8.ofNat z.toNat)).length = n := by simp; omega
    refine ⟨some a, cap, (zs.take n).map (fun z => UInt8.ofNat z.toNat), by rw [hlen], by omega, by omega, (fun h => by cases h), ?_⟩
    intro hpos
    have hp : 0 < zs.length := by rw [hlen] at hpos; omega
    obtain ⟨b, off, rfl, hc⟩ := ints_at hcell hp
    refine ⟨b, off, rfl, ?_⟩
    intro k hk
    have hk' : k < zs.length := by rw [hlen] at hk; omega
    rw [hc k hk']
    simp only [List.getElem_map, List.getElem_take, List.getD_eq_getElem?_getD, List.getElem?_eq_getElem hk', Option.getD_some]
    have := bounds_u8 (hwz zs[k] (List.getElem_mem hk'))
    obtain ⟨m, hm'⟩ : ∃ m : Nat, zs[k] = m := ⟨zs[k].toNat, by omega⟩
    rw [hm']
    show _ = some (Value.int .u8 ((UInt8.ofNat (Int.toNat (m : Int))).toNat : Int))
    rw [Int.toNat_natCast, UInt8.toNat_ofNat_of_lt' (by show m < 256; omega)]
set_option maxRecDepth 100000 in
theorem byte_of {x : Int} (h : (Lit.int .u8 x).wf = true) : ∃ b : By, x = (b.toNat : Int) := by
  have := bounds_u8 h
  obtain ⟨m, rfl⟩ : ∃ m : Nat, x = m := ⟨x.toNat, by omega⟩
  exact ⟨UInt8.ofNat m, by rw [UInt8.toNat_ofNat_of_lt' (by show m < 256; omega)]⟩
set_option maxRecDepth 100000 in
theorem open_text {W : World} {base : Nat} {v : Value} {d : DataW H} {ps : List MemPlace}
    (hv : Value.okWide Tryd.prog W .any base 9 v) (h : DataW.Trod enc Tryd.prog W 0 (fun _ => true) true 9 v d ps) :
    ∃ l : List By, v = .string ⟨l.toArray⟩ ∧ d = .lit (.string l) ∧ ps = [] ∧ l.length ≤ maxLen := by
  obtain ⟨s, rfl, rfl, rfl, hs⟩ := open_string Tryd.underlying9 hv h
  exact ⟨s.data.toList, rfl, rfl, rfl, by simpa using hs⟩
set_option maxRecDepth 100000 in
theorem shut_text {W : World} {base : Nat} {sp : Nat → Bool} {l : List By} (hl : l.length ≤ maxLen) : DataW.Trod enc Tryd.prog W base sp true 9 (.string ⟨l.toArray⟩) (.lit (.string l)) [] := by
  have := shut_string (enc := enc) (w := W) (base := base) (sp := sp) (held := true) Tryd.underlying9 (s := ⟨l.toArray⟩) (by simpa [ByteArray.size] using hl)
  simpa using this
end
end Go.Proofs.YtggmogjgaoobjaaDoor

/- Plain facts on words of 32 bits, and SHA-256 as a Lean function. No program is named. -/
namespace HashMath
open Go

abbrev Wd := BitVec 32
abbrev By := BitVec 8
/-- a word as a number -/
def u (x : Wd) : Int := (x.toNat : Int)
/-- a byte as a number -/
def ub (x : By) : Int := (x.toNat : Int)
set_option maxRecDepth 100000 in
theorem u_lo (x : Wd) : 0 ≤ u x := Int.natCast_nonneg _
set_option maxRecDepth 100000 in
theorem u_hi (x : Wd) : u x < 4294967296 := by have := x.isLt; unfold u; omega
set_option maxRecDepth 100000 in
theorem ub_lo (x : By) : 0 ≤ ub x := Int.natCast_nonneg _
set_option maxRecDepth 100000 in
theorem ub_hi (x : By) : ub x < 256 := by have := x.isLt; unfold ub; omega
set_option maxRecDepth 100000 in
theorem u_inj {x y : Wd} (h : u x = u y) : x = y := BitVec.eq_of_toNat_eq (by unfold u at h; omega)
set_option maxRecDepth 100000 in
theorem ub_inj {x y : By} (h : ub x = ub y) : x = y := BitVec.eq_of_toNat_eq (by unfold ub at h; omega)

set_option maxRecDepth 100000 in
theorem u_ofNat (n : Nat) (h : n < 4294967296) : u (BitVec.ofNat 32 n) = (n : Int) := by
  unfold u; rw [BitVec.toNat_ofNat, Nat.mod_eq_of_lt (by omega)]
set_option maxRecDepth 100000 in
theorem ub_ofNat (n : Nat) (h : n < 256) : ub (BitVec.ofNat 8 n) = (n : Int) := by
  unfold ub; rw [BitVec.toNat_ofNat, Nat.mod_eq_of_lt (by omega)]
set_option maxRecDepth 100000 in
theorem ofInt_u (x : Wd) : BitVec.ofInt 32 (u x) = x := by
  unfold u; rw [BitVec.ofInt_natCast]; simp
set_option maxRecDepth 100000 in
theorem ofInt_ub (x : By) : BitVec.ofInt 8 (ub x) = x := by
  unfold ub; rw [BitVec.ofInt_natCast]; simp
set_option maxRecDepth 100000 in
theorem wrap_u (x : Wd) : IntKind.u32.wrap (x.toNat : Int) = u x := by
  rw [IntKind.wrap_u32']; have := x.isLt; unfold u; omega
set_option maxRecDepth 100000 in
theorem wrap_ub (x : By) : IntKind.u8.wrap (x.toNat : Int) = ub x := by
  rw [IntKind.wrap_u8']; have := x.isLt; unfold ub; omega
set_option maxRecDepth 100000 in
theorem u_xor (x y : Wd) : bits .xor .u32 (u x) (u y) = u (x ^^^ y) := by
  show IntKind.u32.wrap ((BitVec.ofInt 32 (u x) ^^^ BitVec.ofInt 32 (u y)).toNat : Int) = _
  rw [ofInt_u, ofInt_u, wrap_u]
set_option maxRecDepth 100000 in
theorem u_and (x y : Wd) : bits .and .u32 (u x) (u y) = u (x &&& y) := by
  show IntKind.u32.wrap ((BitVec.ofInt 32 (u x) &&& BitVec.ofInt 32 (u y)).toNat : Int) = _
  rw [ofInt_u, ofInt_u, wrap_u]
set_option maxRecDepth 100000 in
theorem u_or (x y : Wd) : bits .or .u32 (u x) (u y) = u (x ||| y) := by
  show IntKind.u32.wrap ((BitVec.ofInt 32 (u x) ||| BitVec.ofInt 32 (u y)).toNat : Int) = _
  rw [ofInt_u, ofInt_u, wrap_u]
set_option maxRecDepth 100000 in
theorem u_not (x : Wd) : bits .xor .u32 4294967295 (u x) = u (~~~x) := by
  show IntKind.u32.wrap ((BitVec.ofInt 32 4294967295 ^^^ BitVec.ofInt 32 (u x)).toNat : Int) = _
  rw [ofInt_u, show BitVec.ofInt 32 4294967295 = BitVec.allOnes 32 by decide, wrap_u, BitVec.allOnes_xor]
set_option maxRecDepth 100000 in
theorem ub_xor (x y : By) : bits .xor .u8 (ub x) (ub y) = ub (x ^^^ y) := by
  show IntKind.u8.wrap ((BitVec.ofInt 8 (ub x) ^^^ BitVec.ofInt 8 (ub y)).toNat : Int) = _
  rw [ofInt_ub, ofInt_ub, wrap_ub]
set_option maxRecDepth 100000 in
theorem u_add (x y : Wd) : IntKind.u32.wrap (u x + u y) = u (x + y) := by
  rw [IntKind.wrap_u32']; unfold u; rw [BitVec.toNat_add]; omega
set_option maxRecDepth 100000 in
theorem u_shr (x : Wd) (n : Nat) : u x / 2 ^ n = u (x >>> n) := by
  unfold u; rw [BitVec.toNat_ushiftRight, Nat.shiftRight_eq_div_pow]
  push_cast; rfl
set_option maxRecDepth 100000 in
theorem u_shl (x : Wd) (n : Nat) : IntKind.u32.wrap (u x * 2 ^ n) = u (x <<< n) := by
  rw [IntKind.wrap_u32']; unfold u; rw [BitVec.toNat_shiftLeft, Nat.shiftLeft_eq]
  have e : (x.toNat : Int) * 2 ^ n = ((x.toNat * 2 ^ n : Nat) : Int) := by rw [Int.natCast_mul, Int.natCast_pow]; rfl
  rw [e]; generalize x.toNat * 2 ^ n = y; omega
set_option maxRecDepth 100000 in
theorem u_add' (x y : Wd) : (u x + u y) % 4294967296 = u (x + y) := by rw [← IntKind.wrap_u32', u_add]
set_option maxRecDepth 100000 in
theorem u_shl' (x : Wd) (n : Nat) : u x * 2 ^ n % 4294967296 = u (x <<< n) := by rw [← IntKind.wrap_u32', u_shl]
set_option maxRecDepth 100000 in
theorem u_shr3 (x : Wd) : u x / (8 : Int) = u (x >>> 3) := u_shr x 3
set_option maxRecDepth 100000 in
theorem u_shr10 (x : Wd) : u x / (1024 : Int) = u (x >>> 10) := u_shr x 10
set_option maxRecDepth 100000 in
theorem u_shr24 (x : Wd) : u x / (16777216 : Int) = u (x >>> 24) := u_shr x 24
set_option maxRecDepth 100000 in
theorem u_shr16 (x : Wd) : u x / (65536 : Int) = u (x >>> 16) := u_shr x 16
set_option maxRecDepth 100000 in
theorem u_shr8 (x : Wd) : u x / (256 : Int) = u (x >>> 8) := u_shr x 8
set_option maxRecDepth 100000 in
/-- a byte of a word -/
theorem u_byte (x : Wd) : IntKind.u8.wrap (u x) = ub (x.setWidth 8) := by
  rw [IntKind.wrap_u8']; unfold u ub; rw [BitVec.toNat_setWidth]
  omega

set_option maxRecDepth 100000 in
theorem u_byte' (x : Wd) : u x % 256 = ub (x.setWidth 8) := by rw [← IntKind.wrap_u8', u_byte]
set_option maxRecDepth 100000 in
theorem u_not' (x : Wd) : bits .xor .u32 (if IntKind.u32.signed = true then -1 else IntKind.u32.max) (u x) = u (~~~x) := u_not x
def rotr (x : Wd) (n : Nat) : Wd := x >>> n ||| x <<< (32 - n)
def bigA (x : Wd) : Wd := rotr x 2 ^^^ rotr x 13 ^^^ rotr x 22
def bigE (x : Wd) : Wd := rotr x 6 ^^^ rotr x 11 ^^^ rotr x 25
def smallA (x : Wd) : Wd := rotr x 7 ^^^ rotr x 18 ^^^ x >>> 3
def smallB (x : Wd) : Wd := rotr x 17 ^^^ rotr x 19 ^^^ x >>> 10
def ch (x y z : Wd) : Wd := x &&& y ^^^ ~~~x &&& z
def maj (x y z : Wd) : Wd := x &&& y ^^^ x &&& z ^^^ y &&& z
set_option maxRecDepth 100000 in
theorem maj_or (x y z : Wd) : (x &&& y) ||| (z &&& (x ||| y)) = maj x y z := by
  unfold maj
  apply BitVec.eq_of_getLsbD_eq
  intro i _
  simp only [BitVec.getLsbD_or, BitVec.getLsbD_and, BitVec.getLsbD_xor]
  cases x.getLsbD i <;> cases y.getLsbD i <;> cases z.getLsbD i <;> rfl

def word (a b c d : By) : Wd := BitVec.ofNat 32 (a.toNat * 16777216 + b.toNat * 65536 + c.toNat * 256 + d.toNat)
set_option maxRecDepth 100000 in
theorem u_word (a b c d : By) : u (word a b c d) = ub a * 16777216 + ub b * 65536 + ub c * 256 + ub d := by
  have ha := a.isLt; have hb := b.isLt; have hc := c.isLt; have hd := d.isLt
  unfold word; rw [u_ofNat _ (by omega)]; unfold ub; omega
set_option maxRecDepth 100000 in
theorem or_add (a b i : Nat) (h : b < 2 ^ i) : a * 2 ^ i ||| b = a * 2 ^ i + b := by
  have := Nat.shiftLeft_add_eq_or_of_lt h a
  rw [Nat.shiftLeft_eq] at this; exact this.symm
set_option maxRecDepth 100000 in
theorem word_or (a b c d : By) : bits .or .u32 (bits .or .u32 (bits .or .u32 (IntKind.u32.wrap (ub a * 2 ^ 24)) (IntKind.u32.wrap (ub b * 2 ^ 16))) (IntKind.u32.wrap (ub c * 2 ^ 8))) (ub d) = u (word a b c d) := by
  have ha := a.isLt; have hb := b.isLt; have hc := c.isLt; have hd := d.isLt
  have e1 : IntKind.u32.wrap (ub a * 2 ^ 24) = ((a.toNat * 2 ^ 24 : Nat) : Int) := by rw [IntKind.wrap_u32']; unfold ub; omega
  have e2 : IntKind.u32.wrap (ub b * 2 ^ 16) = ((b.toNat * 2 ^ 16 : Nat) : Int) := by rw [IntKind.wrap_u32']; unfold ub; omega
  have e3 : IntKind.u32.wrap (ub c * 2 ^ 8) = ((c.toNat * 2 ^ 8 : Nat) : Int) := by rw [IntKind.wrap_u32']; unfold ub; omega
  rw [e1, e2, e3, u32_or_nat _ _ (by omega) (by omega)]
  rw [or_add a.toNat (b.toNat * 2 ^ 16) 24 (by omega)]
  rw [u32_or_nat _ _ (by omega) (by omega)]
  rw [show a.toNat * 2 ^ 24 + b.toNat * 2 ^ 16 = (a.toNat * 256 + b.toNat) * 2 ^ 16 by omega, or_add _ (c.toNat * 2 ^ 8) 16 (by omega)]
  unfold ub
  rw [u32_or_nat _ _ (by omega) (by omega)]
  rw [show (a.toNat * 256 + b.toNat) * 2 ^ 16 + c.toNat * 2 ^ 8 = (a.toNat * 65536 + b.toNat * 256 + c.toNat) * 2 ^ 8 by omega, or_add _ d.toNat 8 (by omega)]
  rw [u_word]; unfold ub; omega

set_option maxRecDepth 100000 in
theorem word_or' (a b c d : By) : bits .or .u32 (bits .or .u32 (bits .or .u32 (IntKind.u32.wrap (ub a * (16777216 : Int))) (IntKind.u32.wrap (ub b * (65536 : Int)))) (IntKind.u32.wrap (ub c * (256 : Int)))) (ub d) = u (word a b c d) := word_or a b c d
set_option maxRecDepth 100000 in
theorem ub_wrap32 (x : By) : IntKind.u32.wrap (ub x) = ub x := by have := ub_lo x; have := ub_hi x; rw [IntKind.wrap_u32']; omega
set_option maxRecDepth 100000 in
theorem ub_wrap8 (x : By) : IntKind.u8.wrap (ub x) = ub x := by have := ub_lo x; have := ub_hi x; rw [IntKind.wrap_u8']; omega
set_option maxRecDepth 100000 in
/-- the reference's way: by sums -/
theorem word_sum (a b c d : By) : IntKind.u32.wrap (IntKind.u32.wrap (IntKind.u32.wrap (IntKind.u32.wrap (ub a * (16777216 : Int)) + IntKind.u32.wrap (ub b * (65536 : Int))) + IntKind.u32.wrap (ub c * (256 : Int))) + ub d) = u (word a b c d) := by
  have ha := ub_lo a; have hb := ub_lo b; have hc := ub_lo c; have hd := ub_lo d
  have ha' := ub_hi a; have hb' := ub_hi b; have hc' := ub_hi c; have hd' := ub_hi d
  simp only [IntKind.wrap_u32']; rw [u_word]; omega

structure St where
  a : Wd
  b : Wd
  c : Wd
  d : Wd
  e : Wd
  f : Wd
  g : Wd
  h : Wd
def St.list (s : St) : List Wd := [s.a, s.b, s.c, s.d, s.e, s.f, s.g, s.h]
def one (s : St) (k w : Wd) : Wd := s.h + bigE s.e + ch s.e s.f s.g + k + w
def two (s : St) : Wd := bigA s.a + maj s.a s.b s.c
def rnd (s : St) (k w : Wd) : St := ⟨one s k w + two s, s.a, s.b, s.c, s.d + one s k w, s.e, s.f, s.g⟩
def rnds (K M : List Wd) (s : St) : Nat → St
  | 0 => s
  | n + 1 => rnd (rnds K M s n) (K.getD n 0) (M.getD n 0)
def St.plus (s t : St) : St := ⟨s.a + t.a, s.b + t.b, s.c + t.c, s.d + t.d, s.e + t.e, s.f + t.f, s.g + t.g, s.h + t.h⟩
/-- the next word of a plan -/
def next (l : List Wd) : Wd := smallB (l.getD (l.length - 2) 0) + l.getD (l.length - 7) 0 + smallA (l.getD (l.length - 15) 0) + l.getD (l.length - 16) 0
def wordAt (p : List By) (i : Nat) : Wd := word (p.getD (4 * i) 0) (p.getD (4 * i + 1) 0) (p.getD (4 * i + 2) 0) (p.getD (4 * i + 3) 0)
/-- the first n words of a block's plan -/
def plan (p : List By) : Nat → List Wd
  | 0 => []
  | n + 1 => plan p n ++ [if n < 16 then wordAt p n else next (plan p n)]
set_option maxRecDepth 100000 in
theorem plan_length (p : List By) (n : Nat) : (plan p n).length = n := by
  induction n with
  | zero => rfl
  | succ n ih => simp [plan, ih]
set_option maxRecDepth 100000 in
theorem plan_getD (p : List By) (n i : Nat) (h : i < n) : (plan p n).getD i 0 = (plan p (i + 1)).getD i 0 := by
  induction n with
  | zero => omega
  | succ n ih =>
    by_cases e : i = n
    · subst e; rfl
    · rw [← ih (by omega)]
      show (plan p n ++ _).getD i 0 = _
      rw [List.getD_eq_getElem?_getD, List.getD_eq_getElem?_getD, List.getElem?_append_left (by rw [plan_length]; omega)]
set_option maxRecDepth 100000 in
theorem plan_getD_at (p : List By) (n : Nat) : (plan p (n + 1)).getD n 0 = if n < 16 then wordAt p n else next (plan p n) := by
  rw [List.getD_eq_getElem?_getD]; simp [plan, plan_length]
/-- one block -/
def comp (K : List Wd) (s : St) (p : List By) : St := s.plus (rnds K (plan p 64) s 64)
/-- n blocks -/
def run (K : List Wd) (s : St) (q : List By) : Nat → St
  | 0 => s
  | n + 1 => comp K (run K s q n) ((q.drop (64 * n)).take 64)
def bytesOf (x : Wd) : List By := [(x >>> 24).setWidth 8, (x >>> 16).setWidth 8, (x >>> 8).setWidth 8, x.setWidth 8]
def outN (l : List Wd) : List By := (l.map bytesOf).flatten
def be8 (n : Nat) : List By := [BitVec.ofNat 8 (n / 2 ^ 56), BitVec.ofNat 8 (n / 2 ^ 48), BitVec.ofNat 8 (n / 2 ^ 40), BitVec.ofNat 8 (n / 2 ^ 32), BitVec.ofNat 8 (n / 2 ^ 24), BitVec.ofNat 8 (n / 2 ^ 16), BitVec.ofNat 8 (n / 2 ^ 8), BitVec.ofNat 8 n]
def zeros (n : Nat) : Nat := (119 - n % 64) % 64
def pad (p : List By) : List By := p ++ [128#8] ++ List.replicate (zeros p.length) 0#8 ++ be8 (8 * p.length)
set_option maxRecDepth 100000 in
theorem pad_length (p : List By) : (pad p).length = p.length + 9 + zeros p.length := by simp [pad, be8]; omega
set_option maxRecDepth 100000 in
theorem pad_mod (p : List By) : (pad p).length % 64 = 0 := by rw [pad_length]; unfold zeros; omega
def K0 : List Wd := [0x428a2f98#32, 0x71374491#32, 0xb5c0fbcf#32, 0xe9b5dba5#32, 0x3956c25b#32, 0x59f111f1#32, 0x923f82a4#32, 0xab1c5ed5#32, 0xd807aa98#32, 0x12835b01#32, 0x243185be#32, 0x550c7dc3#32, 0x72be5d74#32, 0x80deb1fe#32, 0x9bdc06a7#32, 0xc19bf174#32, 0xe49b69c1#32, 0xefbe4786#32, 0x0fc19dc6#32, 0x240ca1cc#32, 0x2de92c6f#32, 0x4a7484aa#32, 0x5cb0a9dc#32, 0x76f988da#32, 0x983e5152#32, 0xa831c66d#32, 0xb00327c8#32, 0xbf597fc7#32, 0xc6e00bf3#32, 0xd5a79147#32, 0x06ca6351#32, 0x14292967#32, 0x27b70a85#32, 0x2e1b2138#32, 0x4d2c6dfc#32, 0x53380d13#32, 0x650a7354#32, 0x766a0abb#32, 0x81c2c92e#32, 0x92722c85#32, 0xa2bfe8a1#32, 0xa81a664b#32, 0xc24b8b70#32, 0xc76c51a3#32, 0xd192e819#32, 0xd6990624#32, 0xf40e3585#32, 0x106aa070#32, 0x19a4c116#32, 0x1e376c08#32, 0x2748774c#32, 0x34b0bcb5#32, 0x391c0cb3#32, 0x4ed8aa4a#32, 0x5b9cca4f#32, 0x682e6ff3#32, 0x748f82ee#32, 0x78a5636f#32, 0x84c87814#32, 0x8cc70208#32, 0x90befffa#32, 0xa4506ceb#32, 0xbef9a3f7#32, 0xc67178f2#32]
def H0 : St := ⟨0x6a09e667#32, 0xbb67ae85#32, 0x3c6ef372#32, 0xa54ff53a#32, 0x510e527f#32, 0x9b05688c#32, 0x1f83d9ab#32, 0x5be0cd19#32⟩
set_option maxRecDepth 100000 in
theorem K0_length : K0.length = 64 := rfl
/-- SHA-256 -/
def sum (p : List By) : List By := outN (run K0 H0 (pad p) ((pad p).length / 64)).list
set_option maxRecDepth 100000 in
theorem outN_length (l : List Wd) : (outN l).length = 4 * l.length := by
  induction l with
  | nil => rfl
  | cons x r ih => simp [outN, bytesOf] at ih ⊢; omega
set_option maxRecDepth 100000 in
theorem sum_length (p : List By) : (sum p).length = 32 := by unfold sum; rw [outN_length]; rfl
/-- folded -/
def short (p : List By) : List By := (List.range 20).map fun i => if i < 12 then (sum p).getD i 0 ^^^ (sum p).getD (i + 20) 0 else (sum p).getD i 0
end HashMath

/- The contracts of the leaves of layer 2: turns, the mixers, of the program and of the reference. -/
namespace Go.Proofs.YtggmogjgaoobjaaDoor.Hs
open Go.RowKit HashMath
attribute [go_sem] u_xor u_and u_or u_not u_not' u_add u_add' u_shl u_shl' u_shr u_shr3 u_shr10 u_shr24 u_shr16 u_shr8 u_byte u_byte' ub_xor ub_wrap32 ub_wrap8 word_or'

set_option maxRecDepth 100000 in
theorem ret_int {k : IntKind} {a b : Int} (h : a = b) : Ending.returned (.int k a) = .returned (.int k b) := by rw [h]
set_option maxRecDepth 100000 in
theorem and31 (n : Nat) (h : n < 32) (h0 : 0 < n) : bits .and .u64 (IntKind.u64.wrap (-(n : Int))) 31 = ((32 - n : Nat) : Int) := by
  have : ∀ n : Fin 32, 0 < n.val → bits .and .u64 (IntKind.u64.wrap (-(n.val : Int))) 31 = ((32 - n.val : Nat) : Int) := by decide
  exact this ⟨n, h⟩ h0

set_option maxRecDepth 100000 in
set_option maxHeartbeats 400000 in
theorem turned_any (x : Wd) (n : Nat) (h : n < 32) (h0 : 0 < n) (w : World) :
    Calls Tryd.prog 103 #[.int .u32 (u x), .int .i64 (n : Int)] w fun e w' => e = .returned (.int .u32 (u (rotr x n))) ∧ ∃ q, w' = w.drewN q := by
  go_enter Tryd.func103, Tryd.ntmps103
  go_wp2
  go_quiet (fail)
  go_wp2
  go_ret
  exact ⟨rfl, nq, rfl⟩
end Go.Proofs.YtggmogjgaoobjaaDoor.Hs

/- Plain facts on the reference's tables: primes, and the first bits behind the point of their roots, as Lean functions; what they come to, by the kernel. No program is named. -/
namespace HashMath

def stepP (l : List Nat) (x : Nat) : List Nat := if l.all (fun y => x % y != 0) then l ++ [x] else l
def primesK : Nat → List Nat
  | 0 => []
  | k + 1 => stepP (primesK k) (k + 2)
set_option maxRecDepth 100000 in
theorem stepP_length (l : List Nat) (x : Nat) : l.length ≤ (stepP l x).length := by unfold stepP; split <;> simp
set_option maxRecDepth 100000 in
theorem primesK_mono (k d : Nat) : (primesK k).length ≤ (primesK (k + d)).length := by
  induction d with
  | zero => exact Nat.le_refl _
  | succ d ih => exact Nat.le_trans ih (stepP_length _ _)
set_option maxRecDepth 100000 in
theorem primesK_ge (k : Nat) : ∀ y ∈ primesK k, 2 ≤ y ∧ y < k + 2 := by
  induction k with
  | zero => intro y hy; cases hy
  | succ k ih =>
    intro y hy
    unfold primesK stepP at hy
    split at hy
    · rcases List.mem_append.1 hy with h | h
      · have := ih y h; omega
      · simp at h; omega
    · have := ih y hy; omega
set_option maxRecDepth 100000 in
theorem primesK_309 : (primesK 309).length = 63 := by decide +kernel
set_option maxRecDepth 100000 in
theorem primesK_310 : (primesK 310).length = 64 := by decide +kernel
set_option maxRecDepth 100000 in
theorem primesK_lt (k : Nat) (h : k < 310) : (primesK k).length < 64 := by
  have := primesK_mono k (309 - k)
  rw [show k + (309 - k) = 309 by omega, primesK_309] at this
  omega

/-- 2^64 -/
def Q : Nat := 18446744073709551616
def wMid (a b : Nat) : Nat := (a / 4294967296 * (b % 4294967296) % Q + a % 4294967296 * (b % 4294967296) % Q / 4294967296) % Q
def wLow (a b : Nat) : Nat := (wMid a b % 4294967296 + a % 4294967296 * (b / 4294967296) % Q) % Q
def wHi (a b : Nat) : Nat := ((a / 4294967296 * (b / 4294967296) % Q + wMid a b / 4294967296) % Q + wLow a b / 4294967296) % Q
def wLo (a b : Nat) : Nat := a * b % Q
def sqB (a n : Nat) : Bool := decide (wHi a a < n) || (decide (wHi a a = n) && decide (wLo a a = 0))
def cMid (a : Nat) : Nat := (wLo (wHi a a) a + wHi (wLo a a) a) % Q
def cZ (a : Nat) : Nat := if cMid a < wLo (wHi a a) a then (wHi (wHi a a) a + 1) % Q else wHi (wHi a a) a
def cTop (a : Nat) : Nat := cZ a * 4294967296 % Q ||| cMid a / 4294967296
def cRest (a : Nat) : Nat := cMid a % 4294967296 ||| wLo (wLo a a) a
def cuB (a n : Nat) : Bool := decide (cTop a < n) || (decide (cTop a = n) && decide (cRest a = 0))
def tB (third : Bool) (a n : Nat) : Bool := if third then cuB a n else sqB a n
/-- behind j steps -/
def rootK (n : Nat) (third : Bool) : Nat → Nat
  | 0 => 0
  | j + 1 => if tB third (rootK n third j + 2 ^ (36 - j)) n then rootK n third j + 2 ^ (36 - j) else rootK n third j
def rootM (n : Nat) (third : Bool) : Wd := BitVec.ofNat 32 (rootK n third 37 % 4294967296)
set_option maxRecDepth 100000 in
theorem rootK_le (n : Nat) (third : Bool) (j : Nat) (h : j ≤ 37) : rootK n third j + 2 ^ (37 - j) ≤ 2 ^ 37 := by
  induction j with
  | zero => simp [rootK]
  | succ j ih =>
    have ih := ih (by omega)
    have e : 2 ^ (37 - j) = 2 ^ (36 - j) + 2 ^ (36 - j) := by
      rw [show 37 - j = (36 - j) + 1 by omega, Nat.pow_succ]; omega
    have e2 : 37 - (j + 1) = 36 - j := by omega
    have hp : 0 < 2 ^ (36 - j) := Nat.two_pow_pos _
    rw [e2]
    unfold rootK
    split <;> omega
set_option maxRecDepth 100000 in
theorem roots_K : (primesK 310).map (rootM · true) = K0 := by decide +kernel
set_option maxRecDepth 100000 in
theorem roots_H : ((primesK 310).take 8).map (rootM · false) = H0.list := by decide +kernel
end HashMath

/- The contracts of the reference's wide, square, cube, root. -/
namespace Go.Proofs.YtggmogjgaoobjaaDoor.Hs
open Go.RowKit HashMath

set_option maxRecDepth 100000 in
theorem wrapQ (n : Nat) : IntKind.u64.wrap (n : Int) = ((n % Q : Nat) : Int) := by
  rw [IntKind.wrap_u64]; unfold Q; omega
set_option maxRecDepth 100000 in
theorem mul_hl (a b : Nat) : (a : Int) / 4294967296 * ((b : Int) % 4294967296) = ((a / 4294967296 * (b % 4294967296) : Nat) : Int) := by
  rw [Int.natCast_mul, Int.natCast_ediv, Int.natCast_emod]; rfl
set_option maxRecDepth 100000 in
theorem mul_ll (a b : Nat) : (a : Int) % 4294967296 * ((b : Int) % 4294967296) = ((a % 4294967296 * (b % 4294967296) : Nat) : Int) := by
  rw [Int.natCast_mul, Int.natCast_emod, Int.natCast_emod]; rfl
set_option maxRecDepth 100000 in
theorem mul_lh (a b : Nat) : (a : Int) % 4294967296 * ((b : Int) / 4294967296) = ((a % 4294967296 * (b / 4294967296) : Nat) : Int) := by
  rw [Int.natCast_mul, Int.natCast_ediv, Int.natCast_emod]; rfl
set_option maxRecDepth 100000 in
theorem mul_hh (a b : Nat) : (a : Int) / 4294967296 * ((b : Int) / 4294967296) = ((a / 4294967296 * (b / 4294967296) : Nat) : Int) := by
  rw [Int.natCast_mul, Int.natCast_ediv, Int.natCast_ediv]; rfl
set_option maxRecDepth 100000 in
theorem div32 (a : Nat) : (a : Int) / 4294967296 = ((a / 4294967296 : Nat) : Int) := by rw [Int.natCast_ediv]; rfl
set_option maxRecDepth 100000 in
theorem tmod32 (a : Nat) : (a : Int).tmod 4294967296 = ((a % 4294967296 : Nat) : Int) := by
  rw [Int.tmod_eq_emod_of_nonneg (by omega), Int.natCast_emod]; rfl
set_option maxRecDepth 100000 in
theorem mid_eq (a b : Nat) : IntKind.u64.wrap (IntKind.u64.wrap ((a : Int) / 4294967296 * ((b : Int) % 4294967296)) + IntKind.u64.wrap ((a : Int) % 4294967296 * ((b : Int) % 4294967296)) / 4294967296) = ((wMid a b : Nat) : Int) := by
  rw [mul_hl, mul_ll, wrapQ, wrapQ, div32, ← Int.natCast_add, wrapQ]; rfl
set_option maxRecDepth 100000 in
theorem low_eq (a b : Nat) : IntKind.u64.wrap (((wMid a b : Nat) : Int).tmod 4294967296 + IntKind.u64.wrap ((a : Int) % 4294967296 * ((b : Int) / 4294967296))) = ((wLow a b : Nat) : Int) := by
  rw [mul_lh, wrapQ, tmod32, ← Int.natCast_add, wrapQ]; rfl
set_option maxRecDepth 100000 in
theorem hi_eq (a b : Nat) : IntKind.u64.wrap (IntKind.u64.wrap (IntKind.u64.wrap ((a : Int) / 4294967296 * ((b : Int) / 4294967296)) + ((wMid a b : Nat) : Int) / 4294967296) + ((wLow a b : Nat) : Int) / 4294967296) = ((wHi a b : Nat) : Int) := by
  rw [mul_hh, wrapQ, div32, div32, ← Int.natCast_add, wrapQ, ← Int.natCast_add, wrapQ]; rfl
set_option maxRecDepth 100000 in
theorem lo_eq (a b : Nat) : IntKind.u64.wrap ((a : Int) * b) = ((wLo a b : Nat) : Int) := by
  rw [← Int.natCast_mul, wrapQ]; rfl
set_option maxRecDepth 100000 in
theorem ret_two {k : IntKind} {a b c d : Int} (h : a = b) (h2 : c = d) : Ending.returned (.tuple #[.int k a, .int k c]) = .returned (.tuple #[.int k b, .int k d]) := by rw [h, h2]

set_option maxRecDepth 100000 in
set_option maxHeartbeats 400000 in
theorem wide_any (a b : Nat) (w : World) :
    Calls Tryd.prog 111 #[.int .u64 a, .int .u64 b] w fun e w' => e = .returned (.tuple #[.int .u64 (wHi a b : Nat), .int .u64 (wLo a b : Nat)]) ∧ w = w' := by
  go_enter Tryd.func111, Tryd.ntmps111
  go_wp2
  go_ret2
  refine ⟨ret_two ?_ ?_, rfl⟩
  · rw [mid_eq, low_eq, hi_eq]
  · rw [lo_eq]

set_option maxRecDepth 100000 in
theorem wHi_lt (a b : Nat) : wHi a b < 18446744073709551616 := Nat.mod_lt _ (by decide)
set_option maxRecDepth 100000 in
theorem wLo_lt (a b : Nat) : wLo a b < 18446744073709551616 := Nat.mod_lt _ (by decide)

set_option maxRecDepth 100000 in
theorem ret_bool {a b : Bool} (h : a = b) : Ending.returned (.bool a) = .returned (.bool b) := by rw [h]
set_option maxRecDepth 100000 in
set_option maxHeartbeats 400000 in
theorem square_any (a n : Nat) (w : World) :
    Calls Tryd.prog 107 #[.int .u64 a, .int .u64 n] w fun e w' => e = .returned (.bool (sqB a n)) ∧ w = w' := by
  have hB : sqB a n = (decide (wHi a a < n) || (decide (wHi a a = n) && decide (wLo a a = 0))) := rfl
  have HB := Lib.hid hB; clear hB
  go_enter Tryd.func107, Tryd.ntmps107
  go_wp2_with fail
  refine (wide_any a a w).mono ?_
  rintro e w' ⟨rfl, rfl⟩
  generalize wHi a a = hi at *
  generalize wLo a a = lo at *
  by_cases h1 : hi < n
  · have t1 : decide ((hi : Int) < n) = true := decide_eq_true (by omega)
    go_wp2
    go_ret
    exact ⟨ret_bool (by rw [HB.out]; simp [h1]), rfl⟩
  · have t1 : decide ((hi : Int) < n) = false := decide_eq_false (by omega)
    go_wp2
    all_goals
      go_ret
      refine ⟨ret_bool ?_, rfl⟩
      rw [HB.out]
      rw [Bool.eq_iff_iff]
      simp
      omega

set_option maxRecDepth 100000 in
theorem shl32 (a : Nat) : IntKind.u64.wrap ((a : Int) * 4294967296) = ((a * 4294967296 % Q : Nat) : Int) := by
  rw [show (a : Int) * 4294967296 = ((a * 4294967296 : Nat) : Int) by rw [Int.natCast_mul]; rfl, wrapQ]
set_option maxRecDepth 100000 in
theorem or64 (a b : Nat) (ha : a < 18446744073709551616) (hb : b < 18446744073709551616) : bits .or .u64 (a : Int) (b : Int) = ((a ||| b : Nat) : Int) := u64_or_nat a b ha hb
/-- what cube reckons with, number by number -/
structure CubeNums (a n v x y z mid z1 zz sh md mr top rest : Nat) : Prop where
  h_b : cuB a n = (decide (top < n) || (decide (top = n) && decide (rest = 0)))
  h_mid : IntKind.u64.wrap ((v : Int) + (x : Int)) = (mid : Int)
  h_z1 : IntKind.u64.wrap ((z : Int) + 1) = (z1 : Int)
  h_zz : zz = if mid < v then z1 else z
  h_sh : IntKind.u64.wrap ((zz : Int) * 4294967296) = (sh : Int)
  h_dv : (mid : Int) / 4294967296 = (md : Int)
  h_top : bits .or .u64 (sh : Int) (md : Int) = (top : Int)
  h_tm : (mid : Int).tmod 4294967296 = (mr : Int)
  h_em : (mid : Int) % 4294967296 = (mr : Int)
  h_rest : bits .or .u64 (mr : Int) (y : Int) = (rest : Int)
set_option maxRecDepth 100000 in
theorem modQ_lt (n : Nat) : n % Q < 18446744073709551616 := Nat.mod_lt _ (by decide)
set_option maxRecDepth 100000 in
theorem cMid_lt (a : Nat) : cMid a < 18446744073709551616 := by rw [cMid]; exact modQ_lt _
set_option maxRecDepth 100000 in
theorem cube_nums (a n : Nat) : CubeNums a n (wLo (wHi a a) a) (wHi (wLo a a) a) (wLo (wLo a a) a) (wHi (wHi a a) a) (cMid a) ((wHi (wHi a a) a + 1) % Q) (cZ a) (cZ a * 4294967296 % Q) (cMid a / 4294967296) (cMid a % 4294967296) (cTop a) (cRest a) := by
  have hm := cMid_lt a
  refine ⟨by rw [cuB], ?_, ?_, by rw [cZ], shl32 _, div32 _, ?_, tmod32 _, ?_, ?_⟩
  · rw [← Int.natCast_add, wrapQ, cMid]
  · rw [show ((wHi (wHi a a) a : Int) + 1) = ((wHi (wHi a a) a + 1 : Nat) : Int) by omega, wrapQ]
  · rw [or64 _ _ (modQ_lt _) (by omega), cTop]
  · rw [Int.natCast_emod]; rfl
  · rw [or64 _ _ (by omega) (wLo_lt _ _), cRest]
end Go.Proofs.YtggmogjgaoobjaaDoor.Hs

/- The contract of the reference's cube. -/
namespace Go.Proofs.YtggmogjgaoobjaaDoor.Hs
open Go.RowKit HashMath

set_option maxRecDepth 100000 in
set_option maxHeartbeats 1000000 in
theorem cube_any (a n : Nat) (w : World) :
    Calls Tryd.prog 106 #[.int .u64 a, .int .u64 n] w fun e w' => e = .returned (.bool (cuB a n)) ∧ w = w' := by
  go_enter Tryd.func106, Tryd.ntmps106
  go_wp2_with fail
  refine (wide_any a a w).mono ?_
  rintro e w' ⟨rfl, rfl⟩
  go_wp2_with fail
  refine (wide_any (wLo a a) a w).mono ?_
  rintro e w' ⟨rfl, rfl⟩
  go_wp2_with fail
  refine (wide_any (wHi a a) a w).mono ?_
  rintro e w' ⟨rfl, rfl⟩
  have HC := Lib.hid (cube_nums a n)
  generalize cMid a % 4294967296 = mr at *
  generalize cMid a / 4294967296 = md at *
  generalize cZ a * 4294967296 % Q = sh at *
  generalize cMid a = mid at *
  generalize cTop a = top at *
  generalize cRest a = rest at *
  generalize (wHi (wHi a a) a + 1) % Q = z1 at *
  generalize cZ a = zz at *
  generalize wLo (wHi a a) a = v at *
  generalize wHi (wLo a a) a = x at *
  generalize wLo (wLo a a) a = y at *
  generalize wHi (wHi a a) a = z at *
  generalize wHi a a = hi at *
  generalize wLo a a = lo at *
  have hmid := HC.out.h_mid
  have hz1 := HC.out.h_z1
  have hsh := HC.out.h_sh
  have hdv := HC.out.h_dv
  have htop := HC.out.h_top
  have htm := HC.out.h_tm
  have hem := HC.out.h_em
  have hrest := HC.out.h_rest
  by_cases hc : mid < v
  · have t0 : decide ((mid : Int) < v) = true := decide_eq_true (by omega)
    have hzz := HC.out.h_zz
    rw [if_pos hc] at hzz
    subst hzz
    have HB := Lib.hid HC.out.h_b
    go_upto_region 9 with fail
    clear hmid hz1 hsh hdv htop htm hem hrest hc t0 HC
    by_cases h1 : top < n
    · have t1 : decide ((top : Int) < n) = true := decide_eq_true (by omega)
      go_wp2
      go_ret
      exact ⟨ret_bool (by rw [HB.out]; simp [h1]), rfl⟩
    · have t1 : decide ((top : Int) < n) = false := decide_eq_false (by omega)
      by_cases h2 : top = n
      · subst h2
        by_cases h3 : rest = 0
        · have t3 : ((rest : Int) == 0) = true := beq_iff_eq.2 (by omega)
          go_wp2
          go_ret
          exact ⟨ret_bool (by rw [HB.out]; simp [h3]), rfl⟩
        · have t3 : ((rest : Int) == 0) = false := beq_eq_false_iff_ne.2 (by omega)
          go_wp2
          go_ret
          exact ⟨ret_bool (by rw [HB.out]; simp [h1, h3]), rfl⟩
      · have t2 : ((top : Int) == n) = false := beq_eq_false_iff_ne.2 (by omega)
        go_wp2
        go_ret
        exact ⟨ret_bool (by rw [HB.out]; simp [h1, h2]), rfl⟩
  · have t0 : decide ((mid : Int) < v) = false := decide_eq_false (by omega)
    have hzz := HC.out.h_zz
    rw [if_neg hc] at hzz
    subst hzz
    have HB := Lib.hid HC.out.h_b
    go_upto_region 9 with fail
    clear hmid hz1 hsh hdv htop htm hem hrest hc t0 HC
    by_cases h1 : top < n
    · have t1 : decide ((top : Int) < n) = true := decide_eq_true (by omega)
      go_wp2
      go_ret
      exact ⟨ret_bool (by rw [HB.out]; simp [h1]), rfl⟩
    · have t1 : decide ((top : Int) < n) = false := decide_eq_false (by omega)
      by_cases h2 : top = n
      · subst h2
        by_cases h3 : rest = 0
        · have t3 : ((rest : Int) == 0) = true := beq_iff_eq.2 (by omega)
          go_wp2
          go_ret
          exact ⟨ret_bool (by rw [HB.out]; simp [h3]), rfl⟩
        · have t3 : ((rest : Int) == 0) = false := beq_eq_false_iff_ne.2 (by omega)
          go_wp2
          go_ret
          exact ⟨ret_bool (by rw [HB.out]; simp [h1, h3]), rfl⟩
      · have t2 : ((top : Int) == n) = false := beq_eq_false_iff_ne.2 (by omega)
        go_wp2
        go_ret
        exact ⟨ret_bool (by rw [HB.out]; simp [h1, h2]), rfl⟩
end Go.Proofs.YtggmogjgaoobjaaDoor.Hs
