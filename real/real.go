// Package real keeps numbers with a point in one form of bits and in one order.
package real

import (
	"math"
	"strconv"
	"strings"

	"godown/api"
)

// noneBits are those of the one NaN that stands for all of them.
const noneBits = 0x7ff8000000000001

// lastWhole bounds what Text tells in digits: up to there float64 has every whole number.
const lastWhole = 1 << 53

// bitDigits is how many digits of base 16 the bits of a number fill.
const bitDigits = 16

// Canon answers one number for all those that are alike, so that their bits are alike, too.
func Canon(x float64) float64 {
	if math.IsNaN(x) {
		return math.Float64frombits(noneBits)
	}
	if x == 0 {
		return 0 // the nought with a sign is equal to it, but has other bits
	}
	return x
}

// Bits answers those of x's Canon.
func Bits(x float64) uint64 {
	return math.Float64bits(Canon(x))
}

// Of answers the number of these bits; ErrForm if no Canon has them.
func Of(b uint64) (float64, api.Errno) {
	x := math.Float64frombits(b)
	if Bits(x) != b {
		return 0, api.ErrForm
	}
	return x, api.OK
}

// Same asks by Bits, since == holds no NaN equal to itself.
func Same(x, y float64) bool {
	return Bits(x) == Bits(y)
}

// Less puts NaN, which < leaves out, behind all others, so that the order is whole.
func Less(x, y float64) bool {
	if math.IsNaN(x) {
		return false
	}
	return math.IsNaN(y) || x < y
}

// Most answers the greatest by Less, as a Canon; of none the least there is.
func Most(l []float64) float64 {
	most := math.Inf(-1)
	for _, x := range l {
		if Less(most, x) {
			most = x
		}
	}
	return Canon(most)
}

// Sum adds one by one in the order of l, since each sum is rounded.
func Sum(l []float64) float64 {
	sum := 0.0
	for _, x := range l {
		sum += x
	}
	return Canon(sum)
}

// Text answers digits only where float64 tells whole numbers apart, else the Bits, so that unlike numbers have unlike texts.
func Text(x float64) string {
	switch {
	case math.IsNaN(x):
		return "nan"
	case math.IsInf(x, 1):
		return "inf"
	case math.IsInf(x, -1):
		return "-inf"
	case isShortWhole(x):
		return strconv.FormatInt(int64(x), 10)
	}
	return "0x" + hex(Bits(x))
}

func isShortWhole(x float64) bool {
	return -lastWhole <= x && x <= lastWhole && math.Trunc(x) == x
}

func hex(b uint64) string {
	digits := strconv.FormatUint(b, 16)
	return strings.Repeat("0", bitDigits-len(digits)) + digits
}
