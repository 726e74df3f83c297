package hash

import (
	"bytes"
	"crypto/sha256"
	"encoding/hex"
	"math/big"
	"strings"
	"testing"
)

// sample answers n bytes that differ from place to place, with other ones for another seed.
func sample(n int, seed uint32) []byte {
	p := make([]byte, n)
	for i := range p {
		seed = seed*1664525 + 1013904223
		p[i] = byte(seed >> 24)
	}
	return p
}

// inputs are of all lengths around the blocks' edges, and some thousand bytes long.
func inputs() [][]byte {
	l := [][]byte{nil, {}, {0}, {0x80}, {0xff}}
	for n := range 700 {
		l = append(l, sample(n, uint32(n)), make([]byte, n), bytes.Repeat([]byte{0xff}, n))
	}
	for _, n := range []int{1023, 1024, 1025, 2048, 4095, 5000, 8191, 8192, 8193, 70000} {
		l = append(l, sample(n, 7))
	}
	return l
}

func TestSize(t *testing.T) {
	if Size != 32 {
		t.Error(Size)
	}
}

func TestSumOfKnownTexts(t *testing.T) {
	for _, c := range []struct{ text, want string }{
		{"", "e3b0c44298fc1c149afbf4c8996fb92427ae41e4649b934ca495991b7852b855"},
		{"abc", "ba7816bf8f01cfea414140de5dae2223b00361a396177a9cb410ff61f20015ad"},
		{"abcdbcdecdefdefgefghfghighijhijkijkljklmklmnlmnomnopnopq", "248d6a61d20638b8e5c026930c3e6039a33ce45964ff2167f6ecedd419db06c1"},
		{strings.Repeat("a", 1000000), "cdc76e5c9914fb9281a1c7e284d73e67f1809a48a497200e046d39ccc7112cd0"},
	} {
		if got := hex.EncodeToString(Sum([]byte(c.text))); got != c.want {
			t.Errorf("of %d bytes: %s, want %s", len(c.text), got, c.want)
		}
	}
}

func TestSumAtAllLengths(t *testing.T) {
	for _, p := range inputs() {
		want := sha256.Sum256(p)
		if got := Sum(p); !bytes.Equal(got, want[:]) {
			t.Errorf("of %d bytes: %x, want %x", len(p), got, want)
		}
	}
}

func TestShortByPlaces(t *testing.T) {
	for _, p := range inputs() {
		sum := sha256.Sum256(p)
		want := [20]byte{
			sum[0] ^ sum[20], sum[1] ^ sum[21], sum[2] ^ sum[22], sum[3] ^ sum[23],
			sum[4] ^ sum[24], sum[5] ^ sum[25], sum[6] ^ sum[26], sum[7] ^ sum[27],
			sum[8] ^ sum[28], sum[9] ^ sum[29], sum[10] ^ sum[30], sum[11] ^ sum[31],
			sum[12], sum[13], sum[14], sum[15], sum[16], sum[17], sum[18], sum[19],
		}
		got := Short(p)
		if len(got) != 20 {
			t.Fatalf("of %d bytes: %d bytes", len(p), len(got))
		}
		for i := range want {
			if got[i] != want[i] {
				t.Errorf("of %d bytes, place %d: %x, want %x", len(p), i, got[i], want[i])
			}
		}
	}
}

func TestNilIsNoBytes(t *testing.T) {
	if !bytes.Equal(Sum(nil), Sum([]byte{})) || !bytes.Equal(Short(nil), Short([]byte{})) {
		t.Error("nil isn't as no bytes are")
	}
}

// TestInputStays lays what is handed in between other bytes, with room behind it.
func TestInputStays(t *testing.T) {
	for _, n := range []int{0, 1, 20, 32, 55, 56, 63, 64, 65, 119, 120, 128, 3000} {
		all := sample(n+400, 3)
		kept := bytes.Clone(all)
		p := all[100 : 100+n]
		Sum(p)
		Short(p)
		if !bytes.Equal(all, kept) {
			t.Errorf("of %d bytes: they, or what lies around them, were written into", n)
		}
	}
}

func TestAnswersAreNew(t *testing.T) {
	for _, n := range []int{0, 20, 32, 64, 200} {
		p := sample(n, 9)
		kept := bytes.Clone(p)
		want := sha256.Sum256(p)
		first, short := Sum(p), Short(p)
		wantShort := bytes.Clone(short)
		for _, answer := range [][]byte{first[:cap(first)], short[:cap(short)]} {
			for i := range answer {
				answer[i] ^= 0xa5
			}
		}
		if !bytes.Equal(p, kept) {
			t.Errorf("of %d bytes: an answer shares memory with them", n)
		}
		if !bytes.Equal(Sum(p), want[:]) || !bytes.Equal(Short(p), wantShort) {
			t.Errorf("of %d bytes: a later answer isn't the same", n)
		}
	}
}

// TestTables works the tables out anew: from the roots of the first primes, as the standard says.
func TestTables(t *testing.T) {
	var primes []int64
	for n := int64(2); len(primes) < len(rounds); n++ {
		if big.NewInt(n).ProbablyPrime(20) {
			primes = append(primes, n)
		}
	}
	for i, k := range rounds {
		if want := rootBits(primes[i], 3); k != want {
			t.Errorf("round %d: %x, want %x", i, k, want)
		}
	}
	for i, w := range start {
		if want := rootBits(primes[i], 2); w != want {
			t.Errorf("start %d: %x, want %x", i, w, want)
		}
	}
}

// rootBits answers the first 32 bits behind the point of n's root of that power: the greatest r with r^power <= n * 2^(32*power).
func rootBits(n, power int64) uint32 {
	bound := new(big.Int).Lsh(big.NewInt(n), uint(32*power))
	r := new(big.Int)
	for bit := 40; bit >= 0; bit-- {
		r.SetBit(r, bit, 1)
		if new(big.Int).Exp(r, big.NewInt(power), nil).Cmp(bound) > 0 {
			r.SetBit(r, bit, 0)
		}
	}
	return uint32(r.Uint64())
}

// TestLengthOfMuch asks for the ending of more bytes than a test would lay out.
func TestLengthOfMuch(t *testing.T) {
	end := ending(nil, 1<<31-1)
	if want := []byte{0, 0, 0, 3, 0xff, 0xff, 0xff, 0xf8}; len(end) != 64 || !bytes.Equal(end[56:], want) {
		t.Errorf("%x", end)
	}
}
