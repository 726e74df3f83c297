package wire

import (
	"bytes"
	"encoding/binary"
	"math"
	"slices"
	"strconv"
	"strings"
	"testing"

	"godown/api"
)

func laid(t *testing.T, what string, w *Writer, want string) {
	t.Helper()
	if got := w.Bytes(); string(got) != want {
		t.Errorf("%s: %x, want %x", what, got, want)
	}
}

// anyBytes answers n bytes, noughts and high ones among them.
func anyBytes(n int) string {
	p := make([]byte, n)
	seed := uint32(n)
	for i := range p {
		p[i] = byte(seed >> 24)
		seed = seed*1664525 + 1013904223
	}
	return string(p)
}

// many answers n texts of some lengths, empty ones among them.
func many(n int) []string {
	l := make([]string, n)
	for i := range l {
		l[i] = anyBytes(i * 7 % 12)
	}
	return l
}

func overwrite(p []byte) {
	p = p[:cap(p)]
	for i := range p {
		p[i] ^= 0xa5
	}
}

func TestExample(t *testing.T) {
	laid(t, "Num(258).Text(ab)", new(Writer).Num(258).Text("ab"), "\x01\x02\x00\x02ab")
}

func TestWriterByte(t *testing.T) {
	for b := range 256 {
		laid(t, "Byte", new(Writer).Byte(byte(b)), string([]byte{byte(b)}))
	}
}

func TestWriterNum(t *testing.T) {
	for _, c := range []struct {
		n    int
		want string
	}{
		{0, "\x00\x00"}, {1, "\x00\x01"}, {255, "\x00\xff"}, {256, "\x01\x00"}, {258, "\x01\x02"}, {65280, "\xff\x00"},
		{65535, "\xff\xff"}, {65536, "\x00\x00"}, {65537, "\x00\x01"}, {0x12345678, "\x56\x78"},
		{-1, "\xff\xff"}, {-2, "\xff\xfe"}, {-256, "\xff\x00"}, {-65535, "\x00\x01"}, {-65536, "\x00\x00"}, {-65537, "\xff\xff"},
		{math.MaxInt, "\xff\xff"}, {math.MinInt, "\x00\x00"},
	} {
		laid(t, "Num", new(Writer).Num(c.n), c.want)
	}
	for n := range 65536 {
		if got := new(Writer).Num(n).Bytes(); len(got) != 2 || binary.BigEndian.Uint16(got) != uint16(n) {
			t.Errorf("Num(%d): %x", n, got)
		}
	}
}

func TestWriterWide(t *testing.T) {
	laid(t, "Wide", new(Writer).Wide(0), strings.Repeat("\x00", 8))
	laid(t, "Wide", new(Writer).Wide(math.MaxUint64), strings.Repeat("\xff", 8))
	laid(t, "Wide", new(Writer).Wide(0x0123456789abcdef), "\x01\x23\x45\x67\x89\xab\xcd\xef")
	for shift := range 64 {
		x := uint64(1) << shift
		laid(t, "Wide", new(Writer).Wide(x), string(binary.BigEndian.AppendUint64(nil, x)))
	}
}

func TestWriterText(t *testing.T) {
	laid(t, "Text", new(Writer).Text(""), "\x00\x00")
	laid(t, "Text", new(Writer).Text("a"), "\x00\x01a")
	laid(t, "Text", new(Writer).Text("\x00\xff\xc3"), "\x00\x03\x00\xff\xc3")
	laid(t, "Text", new(Writer).Text("é"), "\x00\x02\xc3\xa9")
	for _, n := range []int{255, 256, 1024, 65534, 65535} {
		s := anyBytes(n)
		laid(t, "Text of "+strconv.Itoa(n), new(Writer).Text(s), string([]byte{byte(n >> 8), byte(n)})+s)
	}
}

func TestWriterTexts(t *testing.T) {
	laid(t, "Texts", new(Writer).Texts(nil), "\x00")
	laid(t, "Texts", new(Writer).Texts([]string{}), "\x00")
	laid(t, "Texts", new(Writer).Texts([]string{""}), "\x01\x00\x00")
	laid(t, "Texts", new(Writer).Texts([]string{"ab"}), "\x01\x00\x02ab")
	laid(t, "Texts", new(Writer).Texts([]string{"b", "", "a"}), "\x03\x00\x01b\x00\x00\x00\x01a")
	for _, n := range []int{127, 128, 254, 255} {
		want := []byte{byte(n)}
		for _, s := range many(n) {
			want = append(want, 0, byte(len(s)))
			want = append(want, s...)
		}
		laid(t, "Texts of "+strconv.Itoa(n), new(Writer).Texts(many(n)), string(want))
	}
}

func TestWriterBeyondThePromiseEnds(t *testing.T) {
	new(Writer).Text(anyBytes(65536)).Texts(many(256)).Texts([]string{anyBytes(70000)}).Bytes()
}

func TestZeroWriter(t *testing.T) {
	var w Writer
	if got := w.Bytes(); len(got) != 0 {
		t.Errorf("%x", got)
	}
	w.Byte(7)
	laid(t, "a zero value", &w, "\x07")
	laid(t, "another", new(Writer), "")
}

func TestWriterAnswersItself(t *testing.T) {
	w := &Writer{}
	for i, got := range []*Writer{w.Byte(1), w.Num(2), w.Wide(3), w.Text("4"), w.Text(""), w.Texts([]string{"5"}), w.Texts(nil)} {
		if got != w {
			t.Error(i)
		}
	}
}

func TestWriterLaysInOrder(t *testing.T) {
	w := &Writer{}
	w.Texts([]string{"x"})
	w.Wide(5)
	w.Text("y")
	w.Num(6)
	w.Byte(7)
	laid(t, "all", w, "\x01\x00\x01x\x00\x00\x00\x00\x00\x00\x00\x05\x00\x01y\x00\x06\x07")
}

// TestBytesAskedAgain asks at every step, writes over what was answered, with the room behind it, and goes on.
func TestBytesAskedAgain(t *testing.T) {
	w := &Writer{}
	want := ""
	for i := range 200 {
		first := w.Bytes()
		kept := bytes.Clone(first)
		w.Byte(byte(i)).Text("ab")
		if !bytes.Equal(first, kept) {
			t.Fatalf("step %d: what was laid later is seen in an earlier answer", i)
		}
		want += string([]byte{byte(i), 0, 2}) + "ab"
		second := w.Bytes()
		overwrite(first)
		if string(second) != want {
			t.Fatalf("step %d: two answers share memory", i)
		}
		overwrite(second)
		laid(t, "asked again", w, want)
	}
}

func TestWriterKeepsNoArgument(t *testing.T) {
	l := []string{"a", "b", "c", "d"}
	w := new(Writer).Texts(l[:2])
	if !slices.Equal(l, []string{"a", "b", "c", "d"}) {
		t.Error("Texts wrote into its argument", l)
	}
	l[0], l[1] = "x", "y"
	laid(t, "Texts", w, "\x02\x00\x01a\x00\x01b")
}

func TestNilWriter(t *testing.T) {
	var w *Writer
	for i, got := range []*Writer{w.Byte(1), w.Num(2), w.Wide(3), w.Text("4"), w.Text(""), w.Texts([]string{"5", ""}), w.Texts(nil)} {
		if got != nil {
			t.Error(i)
		}
	}
	if got := w.Bytes(); len(got) != 0 {
		t.Errorf("%x", got)
	}
	if got := w.Byte(1).Num(2).Bytes(); len(got) != 0 {
		t.Errorf("%x", got)
	}
}

// state holds a reader against what it must tell of itself.
func state(t *testing.T, what string, r *Reader, left int, ok bool, end api.Errno) {
	t.Helper()
	if r.Left() != left || r.OK() != ok || r.End() != end {
		t.Errorf("%s: left %d, OK %t, End %d; want %d, %t, %d", what, r.Left(), r.OK(), r.End(), left, ok, end)
	}
}

// nothing asks all that may be asked of a reader that must not tell anything.
func nothing(t *testing.T, what string, r *Reader) {
	t.Helper()
	for range 2 {
		state(t, what, r, 0, false, api.ErrForm)
		if r.Byte() != 0 || r.Num() != 0 || r.Wide() != 0 || r.Text() != "" || len(r.Texts(0)) != 0 || len(r.Texts(255)) != 0 || len(r.Texts(-1)) != 0 {
			t.Errorf("%s: something is told", what)
		}
	}
}

// part is one thing that is laid, and read: read tells whether it is what was laid, none whether it is nothing.
type part struct {
	name string
	lay  func(w *Writer)
	read func(r *Reader) bool
	none func(r *Reader) bool
}

func byteOf(b byte) part {
	return part{"Byte", func(w *Writer) { w.Byte(b) }, func(r *Reader) bool { return r.Byte() == b }, func(r *Reader) bool { return r.Byte() == 0 }}
}

func numOf(n int) part {
	return part{"Num", func(w *Writer) { w.Num(n) }, func(r *Reader) bool { return r.Num() == n }, func(r *Reader) bool { return r.Num() == 0 }}
}

func wideOf(x uint64) part {
	return part{"Wide", func(w *Writer) { w.Wide(x) }, func(r *Reader) bool { return r.Wide() == x }, func(r *Reader) bool { return r.Wide() == 0 }}
}

func textOf(s string) part {
	return part{"Text", func(w *Writer) { w.Text(s) }, func(r *Reader) bool { return r.Text() == s }, func(r *Reader) bool { return r.Text() == "" }}
}

func textsOf(l []string, most int) part {
	return part{"Texts", func(w *Writer) { w.Texts(l) }, func(r *Reader) bool { return slices.Equal(r.Texts(most), l) }, func(r *Reader) bool { return len(r.Texts(most)) == 0 }}
}

func parts() []part {
	return []part{
		byteOf(0), byteOf(1), byteOf(255), numOf(0), numOf(255), numOf(256), numOf(258), numOf(65535),
		wideOf(0), wideOf(1), wideOf(0x0123456789abcdef), wideOf(math.MaxUint64),
		textOf(""), textOf("a"), textOf("\x00\xff"), textOf(anyBytes(300)),
		textsOf(nil, 0), textsOf(nil, 255), textsOf([]string{""}, 1), textsOf([]string{"a"}, 1), textsOf([]string{"", "bc", ""}, 3),
		textsOf([]string{"d", "e", "fgh"}, 1000), textsOf(many(40), 40),
	}
}

func TestReadAsWritten(t *testing.T) {
	for range 3 {
		w := &Writer{}
		all := append(parts(), textOf(anyBytes(65535)), textsOf(many(255), 255), textsOf(many(254), math.MaxInt))
		for _, p := range all {
			p.lay(w)
		}
		laid := w.Bytes()
		r := NewReader(laid)
		behind := 0
		for i, p := range all {
			state(t, p.name, r, len(laid)-behind, true, api.ErrForm)
			if !p.read(r) {
				t.Errorf("part %d, %s: isn't what was laid", i, p.name)
			}
			one := &Writer{}
			p.lay(one)
			behind += len(one.Bytes())
		}
		state(t, "all read", r, 0, true, api.OK)
	}
}

func TestEachNumIsReadAsWritten(t *testing.T) {
	for n := range 65536 {
		r := NewReader(new(Writer).Num(n).Bytes())
		if got := r.Num(); got != n || r.End() != api.OK {
			t.Errorf("%d: %d", n, got)
		}
	}
}

// TestEndsAhead cuts each part at every place: behind a failure nothing is told any more.
func TestEndsAhead(t *testing.T) {
	for _, p := range parts() {
		w := new(Writer).Byte(9)
		p.lay(w)
		whole := w.Bytes()
		for n := 1; n < len(whole); n++ {
			r := NewReader(whole[:n])
			r.Byte()
			state(t, p.name, r, n-1, true, endOf(n-1))
			if !p.none(r) {
				t.Errorf("%s, %d of %d bytes: something is told", p.name, n-1, len(whole)-1)
			}
			nothing(t, p.name, r)
		}
		r := NewReader(append(whole[:len(whole):len(whole)], 1, 2, 3))
		r.Byte()
		if !p.read(r) {
			t.Errorf("%s with more behind: isn't what was laid", p.name)
		}
		state(t, p.name+" with more behind", r, 3, true, api.ErrForm)
	}
}

func endOf(left int) api.Errno {
	if left > 0 {
		return api.ErrForm
	}
	return api.OK
}

func TestTextsUpToMost(t *testing.T) {
	for _, n := range []int{0, 1, 2, 3, 16, 254, 255} {
		p := new(Writer).Texts(many(n)).Byte(4).Bytes()
		for _, most := range []int{n, n + 1, 255, 256, math.MaxInt} {
			if most < n {
				continue
			}
			r := NewReader(p)
			if l := r.Texts(most); !slices.Equal(l, many(n)) {
				t.Errorf("%d texts of at most %d: %q", n, most, l)
			}
			state(t, "Texts", r, 1, true, api.ErrForm)
		}
		for _, most := range []int{n - 1, n - 2, -1, math.MinInt} {
			if most >= n {
				continue
			}
			r := NewReader(p)
			if l := r.Texts(most); len(l) != 0 {
				t.Errorf("%d texts of at most %d: %q", n, most, l)
			}
			nothing(t, "Texts", r)
		}
	}
}

func TestBytesLeftOver(t *testing.T) {
	r := NewReader([]byte{1, 2})
	state(t, "nothing read", r, 2, true, api.ErrForm)
	r.Byte()
	state(t, "one read", r, 1, true, api.ErrForm)
	r.Byte()
	state(t, "both read", r, 0, true, api.OK)
	r.Byte()
	nothing(t, "one more", r)
}

func TestReaderOfNothing(t *testing.T) {
	for _, p := range [][]byte{nil, {}} {
		state(t, "of nothing", NewReader(p), 0, true, api.OK)
		for _, ask := range parts() {
			r := NewReader(p)
			if !ask.none(r) {
				t.Error(ask.name)
			}
			nothing(t, ask.name, r)
		}
	}
}

// TestReaderSharesNothing writes over what was handed in, and over lists that were answered.
func TestReaderSharesNothing(t *testing.T) {
	all := new(Writer).Text("abc").Texts([]string{"d", "e", "f"}).Texts([]string{"g"}).Wide(77).Bytes()
	kept := bytes.Clone(all)
	r := NewReader(all[:len(all)-8])
	read := []string{r.Text()}
	if !bytes.Equal(all, kept) {
		t.Error("reading wrote into what was handed in")
	}
	overwrite(all)
	l := r.Texts(3)
	read = append(read, l...)
	for i := range l[:cap(l)] {
		l[:cap(l)][i] = "x"
	}
	read = append(read, r.Texts(1)...)
	if want := []string{"abc", "d", "e", "f", "g"}; !slices.Equal(read, want) {
		t.Errorf("%q", read)
	}
	state(t, "all read", r, 0, true, api.OK)
	overwrite(all)
	if read[0] != "abc" || !bytes.Equal(all, kept) {
		t.Error("an answer shares memory with what was handed in")
	}
}

func TestReadersAreApart(t *testing.T) {
	p := []byte{1, 2, 3}
	a, b := NewReader(p), NewReader(p)
	if a.Byte() != 1 || b.Byte() != 1 || a.Num() != 0x203 || b.Left() != 2 || a.Byte() != 0 || !b.OK() || b.Num() != 0x203 {
		t.Error("one reader moves the other")
	}
}

// TestCutHasNoRoom: a cut that is put to must not write into what is read next.
func TestCutHasNoRoom(t *testing.T) {
	r := NewReader([]byte{1, 2, 3})
	cut := r.take(1)
	if len(cut) != 1 || cap(cut) != 1 {
		t.Errorf("%d bytes with room for %d", len(cut), cap(cut))
	}
	_ = append(cut, 9)
	if r.Num() != 0x203 {
		t.Error("what was put behind the cut is read")
	}
}

func TestNilReader(t *testing.T) {
	var r *Reader
	nothing(t, "nil", r)
}
