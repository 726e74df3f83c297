/- Plain facts on requests as bytes: the kinds' table, what is laid, what is read. No program is named. -/
import Derived.Test.YtghbabnekalgpaaDoorWMath2
namespace ReqMath
open BaseMath WireMath

/-- what a kind has: 0 unknown, 1 none, 2 a path, 3 an item, 4 outs -/
def hasK (k : Nat) : Nat := [0, 3, 2, 2, 2, 2, 2, 4, 2, 2, 2, 1, 1].getD k 0
def nameL : List (List By) := [[], [97, 100, 100], [118, 97, 108, 105, 100], [105, 110, 102, 111], [114, 101, 102, 115], [114, 101, 102, 101, 114, 114, 101, 114, 115], [99, 108, 111, 115, 117, 114, 101], [114, 101, 103, 105, 115, 116, 101, 114], [114, 111, 111, 116], [117, 110, 114, 111, 111, 116], [100, 101, 108, 101, 116, 101], [99, 111, 108, 108, 101, 99, 116], [118, 101, 114, 105, 102, 121]]
def nameK (k : Nat) : List By := nameL.getD k []
theorem hasK_le (k : Nat) : hasK k ≤ 4 := by
  unfold hasK
  match k with
  | 0 | 1 | 2 | 3 | 4 | 5 | 6 | 7 | 8 | 9 | 10 | 11 | 12 => decide
  | n + 13 => simp
theorem hasK_big (k : Nat) (h : 13 ≤ k) : hasK k = 0 := by
  unfold hasK; rw [List.getD_eq_getElem?_getD, List.getElem?_eq_none (by simpa using h)]; rfl
theorem nameK_big (k : Nat) (h : 13 ≤ k) : nameK k = [] := by
  unfold nameK; rw [List.getD_eq_getElem?_getD, List.getElem?_eq_none (by simpa [nameL] using h)]; rfl

structure OutV where
  name : List By
  arch : List By
  refs : List (List By)
  needs : List Int
structure ReqV where
  kind : By
  name : List By
  path : List By
  arch : List By
  refs : List (List By)
  outs : List OutV
def zeroV : ReqV := ⟨0, [], [], [], [], []⟩
def itemB (name arch : List By) (refs : List (List By)) : List By := textB name ++ textB arch ++ textsB refs
def byteI (n : Int) : By := UInt8.ofNat (n % 256).toNat
def outB (o : OutV) : List By := itemB o.name o.arch o.refs ++ [UInt8.ofNat o.needs.length] ++ o.needs.map byteI
def outsB (l : List OutV) : List By := [UInt8.ofNat l.length] ++ l.flatMap outB
def restB (h : Nat) (r : ReqV) : List By := if h = 2 then textB r.path else if h = 3 then itemB r.name r.arch r.refs else if h = 4 then outsB r.outs else []
/-- a request's bytes -/
def encB (r : ReqV) : List By := [r.kind] ++ restB (hasK r.kind.toNat) r

/- reading -/
def iname (r : Rd) : List By := textR r
def iarch (r : Rd) : List By := textR (textA r)
def irefs (r : Rd) : List (List By) := textsR 16 (textA (textA r))
def itemA (r : Rd) : Rd := textsA 16 (textA (textA r))
def needsGo (place : Nat) : Nat → List Int → Rd → Option (List Int × Rd)
  | 0, acc, r => some (acc, r)
  | k + 1, acc, r => if place ≤ numR 1 r then none else needsGo place k (acc ++ [(numR 1 r : Int)]) (after 1 r)
def needsR (place : Nat) (r : Rd) : Option (List Int × Rd) := if 4 ≤ numR 1 r then none else needsGo place (numR 1 r) [] (after 1 r)
def outsGo : Nat → Nat → List OutV → Rd → Option (List OutV × Rd)
  | 0, _, acc, r => some (acc, r)
  | k + 1, i, acc, r => match needsR i (itemA r) with
    | none => none
    | some (ns, r') => outsGo k (i + 1) (acc ++ [⟨iname r, iarch r, irefs r, ns⟩]) r'
def outsR (r : Rd) : Option (List OutV × Rd) := if numR 1 r = 0 ∨ 4 < numR 1 r then none else outsGo (numR 1 r) 0 [] (after 1 r)
def whole (r : Rd) : Bool := !r.f && decide (r.p.length = 0)
def finR (v : ReqV) (r : Rd) : ReqV × Int := if whole r then (v, 0) else (zeroV, 2)
def decK (k : By) (r : Rd) : ReqV × Int :=
  if hasK k.toNat = 0 then (zeroV, 2)
  else if hasK k.toNat = 1 then finR ⟨k, [], [], [], [], []⟩ r
  else if hasK k.toNat = 2 then finR ⟨k, [], textR r, [], [], []⟩ (textA r)
  else if hasK k.toNat = 3 then finR ⟨k, iname r, [], iarch r, irefs r, []⟩ (itemA r)
  else match outsR r with
    | none => (zeroV, 2)
    | some (os, r') => finR ⟨k, [], [], [], [], os⟩ r'
def kindR (p : List By) : By := UInt8.ofNat (numR 1 ⟨p, false⟩)
/-- what bytes are, as a request -/
def decV (p : List By) : ReqV × Int := if 2048 < p.length then (zeroV, 3) else decK (kindR p) (after 1 ⟨p, false⟩)
end ReqMath
