/- The contract of Decode. -/
import Derived.Test.YtghbabnekalgpaaDoorD1
import Derived.Test.YtghbabnekalgpaaDoorD2
import Derived.Test.YtghbabnekalgpaaDoorD3
import Derived.Test.YtghbabnekalgpaaDoorD4
namespace Go.Proofs.YtghbabnekalgpaaDoor
open Go.RowKit BaseMath WireMath ReqMath

set_option maxHeartbeats 4000000 in
set_option maxRecDepth 100000 in
theorem decode_any (A : Option Addr) (c : Nat) (p : List By) (hp : p.length ≤ 70000) (hN : A = none → c = 0) (w : World) (ht : KTab w) (hA : SrcIs w A p) :
    Calls Tryd.prog 18 #[.slice A p.length c] w (DecPost w (decV p)) := by
  by_cases hlen : 2048 < p.length
  · exact decode_long A c p hp hN hlen w ht hA
  · have h := hasK_le (kindR p).toNat
    have hcase : hasK (kindR p).toNat = 0 ∨ hasK (kindR p).toNat = 1 ∨ hasK (kindR p).toNat = 2 ∨ hasK (kindR p).toNat = 3 ∨ hasK (kindR p).toNat = 4 := by omega
    rcases hcase with h | h | h | h | h
    · exact decode_0 A c p hp hN hlen h w ht hA
    · exact decode_1 A c p hp hN hlen h w ht hA
    · exact decode_2 A c p hp hN hlen h w ht hA
    · exact decode_3 A c p hp hN hlen h w ht hA
    · exact decode_4 A c p hp hN hlen h w ht hA
end Go.Proofs.YtghbabnekalgpaaDoor
