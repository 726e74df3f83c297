/- SHA-256 of no bytes, reckoned by the kernel. -/
import Derived.Test.YthocaimiofehkaaHMath
namespace HashMath
set_option maxRecDepth 100000 in
theorem sum_nil4 : (sum []).take 4 = [0xe3#8, 0xb0#8, 0xc4#8, 0x42#8] := by decide +kernel
end HashMath
