/- The contract of the reference's Decode. -/
import Derived.Test.YtghbabnekalgpaaDoorE0
import Derived.Test.YtghbabnekalgpaaDoorE1
import Derived.Test.YtghbabnekalgpaaDoorE2
import Derived.Test.YtghbabnekalgpaaDoorE3
import Derived.Test.YtghbabnekalgpaaDoorE4
namespace Go.Proofs.YtghbabnekalgpaaDoor
open Go.RowKit BaseMath WireMath ReqMath

theorem rdecode_any (A : Option Addr) (c : Nat) (p : List By) (hp : p.length ≤ 70000) (hN : A = none → c = 0) (hc : p.length ≤ c) (w : World) (hA : SrcIs w A p) :
    Calls Tryd.prog 55 #[.slice A p.length c] w (DecPost w (decV p)) := by
  by_cases hlen : 2048 < p.length
  · exact rdecode_long A c p hlen w
  · have h : numR 1 ⟨p, false⟩ < 256 := numR_lt 1 _
    rcases has_cases (numR 1 ⟨p, false⟩) with h | h | h | h | h
    · exact rdecode_0 A c p hp hN hc hlen h.2 w hA
    · exact rdecode_1 A c p hp hN hc hlen h.2 w hA
    · exact rdecode_2 A c p hp hN hc hlen h.2 w hA
    · exact rdecode_3 A c p hp hN hc hlen h.2 w hA
    · exact rdecode_4 A c p hp hN hc hlen h.2 w hA
end Go.Proofs.YtghbabnekalgpaaDoor
