package real

import (
	"fmt"
	"math"
	"math/big"
	"slices"
	"testing"

	"godown/api"
)

var (
	inf        = math.Inf(1)
	nan        = math.NaN()
	signedZero = math.Copysign(0, -1)
)

// strangeNones are NaNs with other bits than the Canon's, and with a sign.
var strangeNones = []uint64{
	0x7ff0000000000001, 0x7ff4000000000000, 0x7ff7ffffffffffff,
	0x7ff8000000000000, 0x7ff8000000000002, 0x7fffffffffffffff,
	0xfff0000000000001, 0xfff8000000000000, 0xfff8000000000001, 0xffffffffffffffff,
}

// edgeBits are bits at and next to every edge, each with and without a sign.
func edgeBits() []uint64 {
	var l []uint64
	for _, b := range []uint64{
		0, 0x0010000000000000, 0x3fe0000000000000, 0x3ff0000000000000, 0x3ff8000000000000,
		0x4000000000000000, 0x4340000000000000, 0x4330000000000000, 0x43e0000000000000,
		0x7fefffffffffffff, 0x7ff0000000000000, 0x7ff8000000000001,
	} {
		for _, near := range []uint64{b - 1, b, b + 1} {
			l = append(l, near, near^1<<63)
		}
	}
	for e := range uint64(2048) {
		l = append(l, e<<52, e<<52|0x8000000000001, 1<<63|e<<52|0xfffffffffffff)
	}
	return append(l, strangeNones...)
}

func edges() []float64 {
	var l []float64
	for _, b := range edgeBits() {
		l = append(l, math.Float64frombits(b))
	}
	return l
}

// isNone reads the bits alone, so that it hangs on nothing that is tested.
func isNone(b uint64) bool {
	return b>>52&0x7ff == 0x7ff && b<<12 != 0
}

// wantBits is P1.1 told once more, by bits.
func wantBits(b uint64) uint64 {
	switch {
	case isNone(b):
		return 0x7ff8000000000001
	case b == 1<<63:
		return 0
	}
	return b
}

// rank rises as the order of P1.2 does.
func rank(b uint64) uint64 {
	b = wantBits(b)
	if b>>63 == 1 {
		return ^b
	}
	return b | 1<<63
}

func TestCanonAndBits(t *testing.T) {
	for _, b := range edgeBits() {
		x, want := math.Float64frombits(b), wantBits(b)
		if got := math.Float64bits(Canon(x)); got != want {
			t.Errorf("Canon of %x has the bits %x, want %x", b, got, want)
		}
		if got := Bits(x); got != want {
			t.Errorf("Bits of %x: %x, want %x", b, got, want)
		}
	}
}

func TestCanonExamples(t *testing.T) {
	for _, c := range []struct {
		x    float64
		want uint64
	}{
		{0, 0}, {signedZero, 0}, {1, 0x3ff0000000000000}, {-1.5, 0xbff8000000000000},
		{inf, 0x7ff0000000000000}, {-inf, 0xfff0000000000000},
		{5e-324, 1}, {-5e-324, 1<<63 | 1}, {math.MaxFloat64, 0x7fefffffffffffff},
		{nan, 0x7ff8000000000001}, {math.Float64frombits(0xfff8000000000077), 0x7ff8000000000001},
	} {
		if got := Bits(c.x); got != c.want || math.Float64bits(Canon(c.x)) != c.want {
			t.Errorf("%v: %x, want %x", c.x, got, c.want)
		}
	}
}

func TestOf(t *testing.T) {
	for _, b := range edgeBits() {
		x, e := Of(b)
		if wantBits(b) == b {
			if e != api.OK || math.Float64bits(x) != b {
				t.Errorf("Of(%x): %x, %d", b, math.Float64bits(x), e)
			}
		} else if e != api.ErrForm || math.Float64bits(x) != 0 {
			t.Errorf("Of(%x): %x, %d, want 0 and ErrForm", b, math.Float64bits(x), e)
		}
	}
}

func TestOfRefuses(t *testing.T) {
	for _, b := range append([]uint64{1 << 63}, strangeNones...) {
		if x, e := Of(b); e != api.ErrForm || math.Float64bits(x) != 0 {
			t.Errorf("Of(%x): %x, %d", b, math.Float64bits(x), e)
		}
	}
}

func TestSameAndLess(t *testing.T) {
	var l []uint64
	for i, b := range edgeBits() {
		if i < 72 || i%37 == 0 {
			l = append(l, b)
		}
	}
	l = append(append(l, strangeNones...), 0x7ff8000000000001)
	for _, a := range l {
		for _, b := range l {
			x, y := math.Float64frombits(a), math.Float64frombits(b)
			if got, want := Same(x, y), rank(a) == rank(b); got != want {
				t.Errorf("Same(%x, %x): %v", a, b, got)
			}
			if got, want := Less(x, y), rank(a) < rank(b); got != want {
				t.Errorf("Less(%x, %x): %v", a, b, got)
			}
		}
	}
}

func TestLessByPlace(t *testing.T) {
	rising := []float64{-inf, -math.MaxFloat64, -2, -1, -5e-324, 0, 5e-324, 0.5, 1, 1.5, 1 << 53, math.MaxFloat64, inf, nan}
	for i, x := range rising {
		for k, y := range rising {
			if Less(x, y) != (i < k) || Same(x, y) != (i == k) {
				t.Errorf("%v, %v: Less %v, Same %v", x, y, Less(x, y), Same(x, y))
			}
		}
	}
	if Less(signedZero, 0) || Less(0, signedZero) || !Same(signedZero, 0) || !Less(-5e-324, signedZero) || !Less(signedZero, 5e-324) {
		t.Error("the noughts aren't one")
	}
}

func TestMost(t *testing.T) {
	none := math.Float64frombits(0xfff8000000000077)
	for i, c := range []struct {
		l    []float64
		want uint64
	}{
		{nil, 0xfff0000000000000},
		{[]float64{}, 0xfff0000000000000},
		{[]float64{-inf}, 0xfff0000000000000},
		{[]float64{-inf, -3}, 0xc008000000000000},
		{[]float64{1, 3, 2}, 0x4008000000000000},
		{[]float64{3, 2, 1}, 0x4008000000000000},
		{[]float64{-3, -2, -1}, 0xbff0000000000000},
		{[]float64{signedZero}, 0},
		{[]float64{signedZero, -1}, 0},
		{[]float64{0, signedZero}, 0},
		{[]float64{1, inf, math.MaxFloat64}, 0x7ff0000000000000},
		{[]float64{1, nan, inf}, 0x7ff8000000000001},
		{[]float64{none, inf}, 0x7ff8000000000001},
		{[]float64{inf, none}, 0x7ff8000000000001},
		{[]float64{none}, 0x7ff8000000000001},
	} {
		if got := math.Float64bits(Most(c.l)); got != c.want {
			t.Errorf("%d: Most(%v): %x, want %x", i, c.l, got, c.want)
		}
	}
}

func TestMostIsTheLastByRank(t *testing.T) {
	l := edges()
	for len(l) > 0 {
		want := uint64(0)
		for _, x := range l {
			want = max(want, rank(math.Float64bits(x)))
		}
		if got := math.Float64bits(Most(l)); rank(got) != want || wantBits(got) != got {
			t.Fatalf("of %d: %x", len(l), got)
		}
		l = l[min(len(l), 113):]
	}
}

func TestSum(t *testing.T) {
	const top = 1 << 53
	none := math.Float64frombits(0xfff8000000000077)
	for i, c := range []struct {
		l    []float64
		want float64
	}{
		{nil, 0},
		{[]float64{}, 0},
		{[]float64{signedZero}, 0},
		{[]float64{signedZero, signedZero}, 0},
		{[]float64{1, -1}, 0},
		{[]float64{1, 2, 4}, 7},
		{[]float64{0.5, 0.25}, 0.75},
		{[]float64{5e-324, 5e-324}, 1e-323},
		{[]float64{top, 1}, top},
		{[]float64{top, 1, 1}, top},
		{[]float64{1, 1, top}, top + 2},
		{[]float64{top + 2, 1}, top + 4},
		{[]float64{-top, -1, -1}, -top},
		{[]float64{1e308, 1e308}, inf},
		{[]float64{1e308, 1e308, -1e308, -1e308}, inf},
		{[]float64{1e308, -1e308, 1e308}, 1e308},
		{[]float64{inf, 1}, inf},
		{[]float64{-1, -inf, 5}, -inf},
		{[]float64{inf, inf}, inf},
		{[]float64{inf, -inf}, nan},
		{[]float64{-inf, inf, 1}, nan},
		{[]float64{1, none}, nan},
		{[]float64{none, -inf}, nan},
		{[]float64{none}, nan},
	} {
		if got := math.Float64bits(Sum(c.l)); got != wantBits(math.Float64bits(c.want)) {
			t.Errorf("%d: Sum(%v): %x, want %v", i, c.l, got, c.want)
		}
	}
}

// TestSumRounds holds each sum of two against one that is worked out whole and rounded once.
func TestSumRounds(t *testing.T) {
	l := []float64{1, 0.1, 1.0 / 3, 1e-300, 1<<53 - 1, 1 << 53, 1<<53 + 2, 1e22, 3e22 + 7e6, 5e-324, 2.2250738585072014e-308, 1e300}
	for _, x := range l {
		for _, y := range l {
			for _, y := range []float64{y, -y} {
				exact := new(big.Float).SetPrec(3000).SetFloat64(x)
				want, _ := exact.Add(exact, new(big.Float).SetFloat64(y)).Float64()
				if got := Sum([]float64{x, y}); got != want {
					t.Errorf("%v + %v: %v, want %v", x, y, got, want)
				}
			}
		}
	}
}

func TestListsStayAsTheyWere(t *testing.T) {
	l := edges()
	kept := edgeBits()
	Most(l)
	Sum(l)
	if !slices.EqualFunc(l, kept, func(x float64, b uint64) bool { return math.Float64bits(x) == b }) {
		t.Error("a list was written into")
	}
}

func TestText(t *testing.T) {
	for _, c := range []struct {
		x    float64
		want string
	}{
		{nan, "nan"}, {math.Float64frombits(0xfff8000000000077), "nan"}, {math.Float64frombits(0x7ff0000000000001), "nan"},
		{inf, "inf"}, {-inf, "-inf"},
		{0, "0"}, {signedZero, "0"}, {1, "1"}, {-1, "-1"}, {10, "10"}, {-7, "-7"}, {1e15, "1000000000000000"},
		{1<<53 - 1, "9007199254740991"}, {1 << 53, "9007199254740992"}, {1<<53 + 2, "0x4340000000000001"},
		{-(1<<53 - 1), "-9007199254740991"}, {-(1 << 53), "-9007199254740992"}, {-(1<<53 + 2), "0xc340000000000001"},
		{1 << 52, "4503599627370496"},
		{1<<52 - 0.5, "0x432fffffffffffff"}, {-(1<<52 - 0.5), "0xc32fffffffffffff"},
		{1.5, "0x3ff8000000000000"}, {-1.5, "0xbff8000000000000"}, {0.5, "0x3fe0000000000000"}, {-0.5, "0xbfe0000000000000"},
		{5e-324, "0x0000000000000001"}, {-5e-324, "0x8000000000000001"},
		{math.MaxFloat64, "0x7fefffffffffffff"}, {1 << 63, "0x43e0000000000000"}, {-(1 << 63), "0xc3e0000000000000"}, {1e300, "0x7e37e43c8800759c"},
	} {
		if got := Text(c.x); got != c.want {
			t.Errorf("Text(%v): %s, want %s", c.x, got, c.want)
		}
	}
}

// TestTextAtEdges works the digits out by numbers without bounds.
func TestTextAtEdges(t *testing.T) {
	top := new(big.Float).SetInt64(1 << 53)
	for _, b := range edgeBits() {
		x := math.Float64frombits(b)
		want := fmt.Sprintf("0x%016x", b)
		switch {
		case isNone(b):
			want = "nan"
		case b == 0x7ff0000000000000:
			want = "inf"
		case b == 0xfff0000000000000:
			want = "-inf"
		default:
			exact := big.NewFloat(x)
			if whole, _ := exact.Int(nil); exact.IsInt() && new(big.Float).Abs(exact).Cmp(top) <= 0 {
				want = whole.String()
			}
		}
		if got := Text(x); got != want {
			t.Errorf("Text of %x: %s, want %s", b, got, want)
		}
	}
}
