package base

import (
	"bytes"
	"fmt"
	"math"
	"math/big"
	"strconv"
	"strings"
	"testing"

	"godown/api"
)

// sample answers n bytes that differ from place to place, with other ones for another seed.
func sample(n int, seed uint32) []byte {
	p := make([]byte, n)
	for i := range p {
		seed = seed*1664525 + 1013904223
		p[i] = byte(seed >> 24)
	}
	return p
}

// inputs are of every length up to 300, and longer ones next to multiples of five.
func inputs() [][]byte {
	l := [][]byte{nil, {}}
	for n := range 301 {
		l = append(l, sample(n, uint32(n)), make([]byte, n), bytes.Repeat([]byte{0xff}, n))
	}
	for _, n := range []int{999, 1000, 1001, 1004, 65534, 65535, 65536} {
		l = append(l, sample(n, 5))
	}
	return l
}

// wantText is P3.1 told once more, by texts of noughts and ones.
func wantText(p []byte) string {
	var bits strings.Builder
	for _, b := range p {
		fmt.Fprintf(&bits, "%08b", b)
	}
	for bits.Len()%5 != 0 {
		bits.WriteByte('0')
	}
	var want strings.Builder
	for s := bits.String(); s != ""; s = s[5:] {
		place, err := strconv.ParseUint(s[:5], 2, 8)
		if err != nil {
			panic(err)
		}
		want.WriteByte("0123456789abcdfghijklmnpqrsvwxyz"[place])
	}
	return want.String()
}

func refused(t *testing.T, s string) {
	t.Helper()
	if p, e := Bytes(s); len(p) != 0 || e != api.ErrForm {
		t.Errorf("Bytes(%q): %x, %d, want ErrForm", s, p, e)
	}
}

func TestLetters(t *testing.T) {
	if Letters != "0123456789abcdfghijklmnpqrsvwxyz" {
		t.Error(Letters)
	}
}

func TestTextOfKnownBytes(t *testing.T) {
	for _, c := range []struct{ bytes, want string }{
		{"", ""},
		{"\xff", "zw"},
		{"\x00", "00"},
		{"\x08", "10"},
		{"\x01", "04"},
		{"\x80\x00", "h000"},
		{"\x00\x01", "000h"},
		{"\xff\xff\xff\xff\xff", "zzzzzzzz"},
		{"\x00\x44\x32\x14\xc7", "01234567"},
		{"\x42\x54\xb6\x35\xcf", "89abcdfg"},
	} {
		if got := Text([]byte(c.bytes)); got != c.want {
			t.Errorf("Text(%x): %s, want %s", c.bytes, got, c.want)
		}
		if p, e := Bytes(c.want); string(p) != c.bytes || e != api.OK {
			t.Errorf("Bytes(%s): %x, %d, want %x", c.want, p, e, c.bytes)
		}
	}
}

func TestTextAtAllLengths(t *testing.T) {
	for _, p := range inputs() {
		want := wantText(p)
		got := Text(p)
		if got != want {
			t.Errorf("of %d bytes: %s, want %s", len(p), got, want)
		}
		if len(want) != Len(len(p)) {
			t.Errorf("Len(%d): %d, want %d", len(p), Len(len(p)), len(want))
		}
		if back, e := Bytes(want); !bytes.Equal(back, p) || e != api.OK {
			t.Errorf("of %d bytes, and back: %x, %d", len(p), back, e)
		}
	}
}

// TestEachLetterAtEachPlace puts every letter at each of the eight places of five bytes.
func TestEachLetterAtEachPlace(t *testing.T) {
	for place := range 8 {
		for value := range 32 {
			s := strings.Repeat("0", place) + Letters[value:value+1] + strings.Repeat("0", 7-place)
			number := new(big.Int).Lsh(big.NewInt(int64(value)), uint(35-5*place))
			want := number.FillBytes(make([]byte, 5))
			if p, e := Bytes(s); !bytes.Equal(p, want) || e != api.OK {
				t.Errorf("Bytes(%s): %x, %d, want %x", s, p, e, want)
			}
			if got := Text(want); got != s {
				t.Errorf("Text(%x): %s, want %s", want, got, s)
			}
		}
	}
}

// TestEachOtherSign puts every byte that is no letter at each place of texts that would be right without it.
func TestEachOtherSign(t *testing.T) {
	for b := range 256 {
		sign := string([]byte{byte(b)})
		if strings.Contains(Letters, sign) {
			continue
		}
		for _, n := range []int{2, 4, 5, 7, 8, 16} {
			for place := range n {
				refused(t, strings.Repeat("0", place)+sign+strings.Repeat("0", n-1-place))
			}
		}
	}
	for _, s := range []string{"é", "0é", "０", "zW", "Zw", "ZW", "e0", "o0", "t0", "u0", "0\n", " 00", "00 ", "00=", "00000000\x00\x00"} {
		refused(t, s)
	}
}

// TestTextsOfTwoLetters holds all pairs of bytes against those texts that one byte has.
func TestTextsOfTwoLetters(t *testing.T) {
	ofOne := map[string]byte{}
	for b := range 256 {
		ofOne[wantText([]byte{byte(b)})] = byte(b)
	}
	for a := range 256 {
		for b := range 256 {
			s := string([]byte{byte(a), byte(b)})
			want, is := ofOne[s]
			p, e := Bytes(s)
			if is && (e != api.OK || len(p) != 1 || p[0] != want) || !is && (e != api.ErrForm || len(p) != 0) {
				t.Errorf("Bytes(%q): %x, %d", s, p, e)
			}
		}
	}
}

// TestTextsOfFourLetters: a text is that of two bytes if and only if its last four bits are noughts.
func TestTextsOfFourLetters(t *testing.T) {
	for x := range 1 << 20 {
		s := string([]byte{Letters[x>>15], Letters[x>>10&31], Letters[x>>5&31], Letters[x&31]})
		p, e := Bytes(s)
		right := e == api.ErrForm && len(p) == 0
		if x&15 == 0 {
			right = e == api.OK && len(p) == 2 && int(p[0])<<8|int(p[1]) == x>>4
		}
		if !right {
			t.Fatalf("Bytes(%s): %x, %d", s, p, e)
		}
	}
}

func TestLengthsThatNoBytesHave(t *testing.T) {
	have := map[int]bool{}
	for n := range 200 {
		have[len(wantText(make([]byte, n)))] = true
	}
	for n := range 300 {
		p, e := Bytes(strings.Repeat("0", n))
		if have[n] && (e != api.OK || !bytes.Equal(p, make([]byte, n*5/8))) || !have[n] && (e != api.ErrForm || len(p) != 0) {
			t.Errorf("%d letters: %x, %d", n, p, e)
		}
	}
	for _, s := range []string{"0", "z", "000", "zzz", "000000", "zzzzzz", "000000000", "01234567a"} {
		refused(t, s)
	}
}

// TestBitsBehindTheLastByte sets each bit that must be a nought, for each number of bytes.
func TestBitsBehindTheLastByte(t *testing.T) {
	for n := 1; n <= 24; n++ {
		s := wantText(sample(n, 11))
		loose := len(s)*5 - n*8
		last := strings.IndexByte(Letters, s[len(s)-1])
		for extra := 1; extra < 1<<loose; extra++ {
			refused(t, s[:len(s)-1]+Letters[last+extra:last+extra+1])
		}
	}
}

func TestLen(t *testing.T) {
	for _, c := range []struct{ n, want int }{
		{math.MinInt, 0}, {-1 << 50, 0}, {-5, 0}, {-2, 0}, {-1, 0}, {0, 0},
		{1, 2}, {2, 4}, {3, 5}, {4, 7}, {5, 8}, {6, 10}, {7, 12}, {8, 13}, {9, 15}, {10, 16}, {11, 18},
		{20, 32}, {21, 34}, {32, 52}, {1 << 50, 1801439850948199}, {1<<50 - 1, 1801439850948197}, {1<<50 - 4, 1801439850948192},
	} {
		if got := Len(c.n); got != c.want {
			t.Errorf("Len(%d): %d, want %d", c.n, got, c.want)
		}
	}
	for shift := range 50 {
		for _, n := range []int64{1<<shift - 1, 1 << shift, 1<<shift + 1, 3 << shift / 2} {
			bits := new(big.Int).Mul(big.NewInt(n), big.NewInt(8))
			want := new(big.Int).Div(bits.Add(bits, big.NewInt(4)), big.NewInt(5))
			if got := Len(int(n)); !want.IsInt64() || int64(got) != want.Int64() {
				t.Errorf("Len(%d): %d, want %s", n, got, want)
			}
		}
	}
}

func TestLenBeyondThePromiseEnds(t *testing.T) {
	for _, n := range []int{1<<50 + 1, 1 << 60, math.MaxInt - 1, math.MaxInt} {
		Len(n)
	}
}

func TestNothingIsShared(t *testing.T) {
	for _, n := range []int{0, 1, 4, 5, 6, 20, 65, 3000} {
		all := sample(n+40, 3)
		kept := bytes.Clone(all)
		p := all[20 : 20+n]
		want := wantText(p)
		text := Text(p)
		if !bytes.Equal(all, kept) {
			t.Errorf("of %d bytes: they, or what lies around them, were written into", n)
		}
		first, _ := Bytes(text)
		for _, l := range [][]byte{all, first[:cap(first)]} {
			for i := range l {
				l[i] ^= 0xa5
			}
		}
		if text != want {
			t.Errorf("of %d bytes: the text changed with them", n)
		}
		if again, e := Bytes(text); !bytes.Equal(again, kept[20:20+n]) || e != api.OK {
			t.Errorf("of %d bytes: a later answer isn't the same", n)
		}
	}
}
