package frame

import (
	"bytes"
	"slices"
	"strconv"
	"testing"

	"godown/api"
)

// lengths are those at which a length's bytes, or what may be done with it, change.
var lengths = []int{1, 2, 3, 127, 128, 254, 255, 256, 257, 511, 512, 2046, 2047, 2048, 2049, 2050, 2303, 2304, 4096, 32767, 32768, 65279, 65280, 65534, 65535}

// anyBytes answers n bytes, noughts and high ones among them.
func anyBytes(n int) []byte {
	p := make([]byte, n)
	seed := uint32(n)*2654435761 + 1
	for i := range p {
		seed = seed*1664525 + 1013904223
		p[i] = byte(seed >> 24)
	}
	return p
}

func overwrite(p []byte) {
	p = p[:cap(p)]
	for i := range p {
		p[i] ^= 0xa5
	}
}

// framed lays a frame of n bytes by hand.
func framed(n int) []byte {
	return append([]byte{byte(n / 256), byte(n % 256)}, anyBytes(n)...)
}

func TestExample(t *testing.T) {
	if got := Frame([]byte("a")); string(got) != "\x00\x01a" {
		t.Errorf("%x", got)
	}
}

func TestFrame(t *testing.T) {
	for _, n := range lengths {
		if got := Frame(anyBytes(n)); !bytes.Equal(got, framed(n)) {
			t.Errorf("%d bytes: %d bytes that begin with %x", n, len(got), got[:min(len(got), 4)])
		}
	}
	for n := 1; n <= 65535; n += 1 + n/40 {
		if got := Frame(anyBytes(n)); !bytes.Equal(got, framed(n)) {
			t.Errorf("%d bytes: %d bytes that begin with %x", n, len(got), got[:min(len(got), 4)])
		}
	}
	for b := range 256 {
		if got := Frame([]byte{byte(b)}); string(got) != string([]byte{0, 1, byte(b)}) {
			t.Errorf("%x: %x", b, got)
		}
	}
}

// TestFrameOfOthers holds no more than that the call ends and lays nothing that would be read as another payload.
func TestFrameOfOthers(t *testing.T) {
	for _, p := range [][]byte{nil, {}, anyBytes(65536), anyBytes(65537), anyBytes(65538), anyBytes(1 << 20)} {
		if got := Frame(p); len(got) != 0 {
			t.Errorf("%d bytes: %d bytes", len(p), len(got))
		}
	}
}

func TestFrameSharesNothing(t *testing.T) {
	for _, n := range []int{1, 2, 255, 2048, 65535} {
		room := anyBytes(n + 8)
		p := room[:n]
		got := Frame(p)
		if !bytes.Equal(room, anyBytes(n+8)) {
			t.Errorf("%d bytes: what was handed in was written over", n)
		}
		want := bytes.Clone(got)
		overwrite(p)
		if !bytes.Equal(got, want) {
			t.Errorf("%d bytes: the frame is no copy", n)
		}
		p = anyBytes(n)
		overwrite(Frame(p))
		if !bytes.Equal(p, anyBytes(n)) {
			t.Errorf("%d bytes: the frame stands in what was handed in", n)
		}
	}
}

// state is what a stream told in all, and how it is.
type state struct {
	told   []string
	held   int
	broken bool
}

// same says whether the same was told, waits, and is broken.
func (a state) same(b state) bool {
	return slices.Equal(a.told, b.told) && a.held == b.held && a.broken == b.broken
}

// text is short enough for a report.
func (a state) text() string {
	s := "told"
	for _, payload := range a.told {
		s += " " + strconv.Itoa(len(payload)) + ":" + strconv.Quote(payload[:min(len(payload), 8)])
	}
	return s + ", held " + strconv.Itoa(a.held) + ", broken " + strconv.FormatBool(a.broken)
}

// want is P13.1 told once more, of all the bytes that came, from their beginning on.
func want(all []byte) state {
	var w state
	at := 0
	for {
		if len(all)-at <= 1 {
			w.held = len(all) - at
			return w
		}
		n := 256*int(all[at]) + int(all[at+1])
		if n == 0 || n > 2048 {
			w.broken = true
			return w
		}
		if len(all)-at-2 < n {
			w.held = len(all) - at
			return w
		}
		w.told = append(w.told, string(all[at+2:at+2+n]))
		at += 2 + n
	}
}

// feeder is a stream with all that came to it and all that it told.
type feeder struct {
	stream *Stream
	came   []byte
	told   []string
}

// feed holds the stream, piece by piece, against what is to be told of all that came. It hands in memory that is written over, and writes over what it is told.
func (f *feeder) feed(t *testing.T, p []byte) {
	t.Helper()
	piece := slices.Concat(p, []byte("room"))
	l := f.stream.Feed(piece[:len(p)])
	if string(piece) != string(p)+"room" {
		t.Fatalf("a piece of %d bytes was written over", len(p))
	}
	overwrite(piece)
	for _, payload := range l {
		f.told = append(f.told, string(payload))
		overwrite(payload)
	}
	f.came = append(f.came, p...)
	got := state{f.told, f.stream.Held(), f.stream.Broken()}
	if w := want(f.came); !got.same(w) {
		t.Fatalf("%.40x (%d bytes), the last piece of %d: %s; want %s", f.came, len(f.came), len(p), got.text(), w.text())
	}
}

// fed feeds all the pieces to a new stream.
func fed(t *testing.T, pieces ...[]byte) *feeder {
	t.Helper()
	f := &feeder{stream: New()}
	for _, p := range pieces {
		f.feed(t, p)
	}
	return f
}

func TestNew(t *testing.T) {
	s := New()
	if s == nil || s.Held() != 0 || s.Broken() {
		t.Fatalf("%v", s)
	}
	for _, p := range [][]byte{nil, {}} {
		if l := s.Feed(p); len(l) != 0 || s.Held() != 0 || s.Broken() {
			t.Errorf("%q %d %v", l, s.Held(), s.Broken())
		}
	}
	other := New()
	s.Feed([]byte("\x00\x02a"))
	if other.Held() != 0 || New().Held() != 0 {
		t.Error("two streams have bytes in common")
	}
	if l := other.Feed([]byte("\x00\x01b")); len(l) != 1 || string(l[0]) != "b" || s.Held() != 3 {
		t.Errorf("%q %d", l, s.Held())
	}
}

// step is a piece, and what is told of it.
type step struct {
	piece  string
	told   []string
	held   int
	broken bool
}

// run holds a new stream against the steps, one by one.
func run(t *testing.T, steps ...step) {
	t.Helper()
	s := New()
	for i, c := range steps {
		var got state
		for _, payload := range s.Feed([]byte(c.piece)) {
			got.told = append(got.told, string(payload))
		}
		got.held, got.broken = s.Held(), s.Broken()
		if w := (state{c.told, c.held, c.broken}); !got.same(w) {
			t.Errorf("step %d: %s; want %s", i, got.text(), w.text())
		}
	}
}

func TestFeed(t *testing.T) {
	most := string(anyBytes(2048))
	run(t, step{"\x00\x01a", []string{"a"}, 0, false}, step{"\x00\x02bc", []string{"bc"}, 0, false})
	run(t, step{"\x00\x01a\x00\x03bcd\x00\x02ef", []string{"a", "bcd", "ef"}, 0, false})
	run(t, step{"\x00\x01a\x00\x01a\x00\x01a", []string{"a", "a", "a"}, 0, false})
	run(t, step{"\x08\x00" + most, []string{most}, 0, false})
	run(t, step{"\x08\x00" + most + "\x00\x01a\x08\x00" + most + "\x00", []string{most, "a", most}, 1, false})
	run(t, step{"\x08\x00" + most[:2047], nil, 2049, false}, step{"", nil, 2049, false}, step{most[2047:], []string{most}, 0, false})
	run(t, step{"\x01\x00" + most[:255], nil, 257, false}, step{most[255:256], []string{most[:256]}, 0, false})
	run(t, step{"\x00", nil, 1, false}, step{"", nil, 1, false}, step{"\x01", nil, 2, false}, step{"", nil, 2, false}, step{"a", []string{"a"}, 0, false}, step{"", nil, 0, false})
	run(t, step{"\x00\x02a", nil, 3, false}, step{"b\x00\x01c\x00\x02d", []string{"ab", "c"}, 3, false}, step{"e", []string{"de"}, 0, false})
	run(t, step{"\x00\x02\x00\x00\x00\x02\xff\xff", []string{"\x00\x00", "\xff\xff"}, 0, false})
}

func TestBreaks(t *testing.T) {
	for _, bad := range []string{"\x00\x00", "\x08\x01", "\x08\x02", "\x08\xff", "\x09\x00", "\x10\x00", "\x7f\xff", "\x80\x00", "\xff\x00", "\xff\xff"} {
		run(t, step{bad, nil, 0, true}, step{"\x00\x01a", nil, 0, true}, step{"", nil, 0, true}, step{bad, nil, 0, true})
		run(t, step{bad[:1], nil, 1, false}, step{"", nil, 1, false}, step{bad[1:], nil, 0, true}, step{"\x00\x01a", nil, 0, true})
		run(t, step{bad + "\x00\x01a", nil, 0, true}, step{"\x00", nil, 0, true}, step{"\x01b", nil, 0, true})
		run(t, step{"\x00\x01a\x00\x02bc" + bad + "\x00\x01d", []string{"a", "bc"}, 0, true}, step{"\x00\x01e", nil, 0, true})
		run(t, step{"\x00\x01a", []string{"a"}, 0, false}, step{bad, nil, 0, true}, step{"\x00\x01e", nil, 0, true})
		run(t, step{"\x00\x02" + bad[:1], nil, 3, false}, step{bad[1:] + bad[:1], []string{bad}, 1, false}, step{bad[1:], nil, 0, true})
		run(t, step{"\x00\x03" + bad, nil, 4, false}, step{"c", []string{bad + "c"}, 0, false}, step{bad, nil, 0, true})
		run(t, step{"\x00\x02a", nil, 3, false}, step{"b" + bad, []string{"ab"}, 0, true}, step{"c", nil, 0, true})
	}
}

// TestEachLength goes through all that two bytes can tell.
func TestEachLength(t *testing.T) {
	for n := range 65536 {
		s := New()
		l := s.Feed([]byte{byte(n >> 8), byte(n)})
		if bad := n < 1 || n > api.MaxFrame; len(l) != 0 || s.Broken() != bad || (s.Held() == 2) == bad || (s.Held() == 0) != bad {
			t.Fatalf("%d: %q %d %v", n, l, s.Held(), s.Broken())
		}
	}
}

// TestTakesFrames feeds what Frame lays: a stream takes what is no longer than MaxFrame.
func TestTakesFrames(t *testing.T) {
	for _, n := range lengths {
		f := fed(t, Frame(anyBytes(n)))
		if takes := n <= 2048; f.stream.Broken() == takes || (len(f.told) == 1) != takes {
			t.Errorf("%d bytes: %d told, broken %v", n, len(f.told), f.stream.Broken())
		}
	}
	f := fed(t)
	for n := 1; n <= 2048; n++ {
		f.came, f.told = nil, nil
		f.feed(t, Frame(anyBytes(n)))
		if len(f.told) != 1 || f.told[0] != string(anyBytes(n)) || f.stream.Held() != 0 {
			t.Fatalf("%d bytes", n)
		}
	}
}

// TestHeld feeds frames byte by byte: all waits till the last byte is there.
func TestHeld(t *testing.T) {
	for _, n := range []int{1, 2, 255, 256, 257, 2047, 2048} {
		s := New()
		for i, b := range framed(n) {
			held, told := i+1, 0
			if i == n+1 {
				held, told = 0, 1
			}
			if l := s.Feed([]byte{b}); len(l) != told || s.Held() != held || s.Broken() {
				t.Fatalf("%d bytes, byte %d: %d told, held %d, broken %v", n, i, len(l), s.Held(), s.Broken())
			}
		}
	}
}

func TestNilStream(t *testing.T) {
	var s *Stream
	for _, p := range [][]byte{nil, {}, []byte("\x00"), []byte("\x00\x01a"), []byte("\x00\x00"), []byte("\xff\xff"), framed(2048)} {
		if l := s.Feed(p); len(l) != 0 || s.Broken() || s.Held() != 0 {
			t.Errorf("%.8x: %q %v %d", p, l, s.Broken(), s.Held())
		}
	}
}

// TestToldSharesNothing writes over what was told, beyond its end too: neither what else was told nor what waits is there.
func TestToldSharesNothing(t *testing.T) {
	p := []byte("\x00\x02ab\x00\x03cde\x00\x01f\x00\x04gh")
	wants := []string{"ab", "cde", "f"}
	for which := range wants {
		s := New()
		l := s.Feed(p)
		overwrite(l[which])
		_ = append(l[which], "..............."...)
		for i, w := range wants {
			if i != which && string(l[i]) != w {
				t.Errorf("%d written over: %d is %q", which, i, l[i])
			}
		}
		first := l[0]
		clear(l[:cap(l)])
		if which != 0 && string(first) != "ab" || string(p) != "\x00\x02ab\x00\x03cde\x00\x01f\x00\x04gh" {
			t.Errorf("%d written over: %q, %q", which, first, p)
		}
		if l := s.Feed([]byte("ij")); len(l) != 1 || string(l[0]) != "ghij" {
			t.Errorf("%d written over: then %q", which, l)
		}
	}
}

// TestToldStays feeds on: what was told is the caller's.
func TestToldStays(t *testing.T) {
	s := New()
	p := []byte("\x00\x02ab\x00\x02c")
	first := s.Feed(p)
	overwrite(p)
	second := s.Feed([]byte("d\x00\x02ef\x00\x05xx"))
	s.Feed([]byte("xxx\x00\x00"))
	if len(first) != 1 || string(first[0]) != "ab" || len(second) != 2 || string(second[0]) != "cd" || string(second[1]) != "ef" {
		t.Errorf("%q %q", first, second)
	}
}

// TestKeepsWhatWaits looks inside: neither what was told nor what is behind a break is kept.
func TestKeepsWhatWaits(t *testing.T) {
	s := New()
	s.Feed(slices.Concat(bytes.Repeat(framed(2048), 100), []byte("\x00\x05ab")))
	if s.Held() != 4 || cap(s.held) > 64 {
		t.Errorf("held %d, room %d", s.Held(), cap(s.held))
	}
	for range 100 {
		s.Feed([]byte("cde\x00\x05ab"))
	}
	if s.Held() != 4 || cap(s.held) > 64 {
		t.Errorf("held %d, room %d", s.Held(), cap(s.held))
	}
	s.Feed(slices.Concat([]byte("cde\x00\x00"), anyBytes(5000)))
	s.Feed(anyBytes(5000))
	if s.Held() != 0 || cap(s.held) != 0 {
		t.Errorf("broken: held %d, room %d", s.Held(), cap(s.held))
	}
	s = New()
	s.Feed(append([]byte("\xff\xff"), anyBytes(5000)...))
	if s.Held() != 0 || cap(s.held) != 0 {
		t.Errorf("broken at once: held %d, room %d", s.Held(), cap(s.held))
	}
}

// cuts feeds all to new streams, cut at one place, at two, byte by byte, and so with empty pieces between.
func cuts(t *testing.T, all []byte, step int) {
	t.Helper()
	fed(t, all)
	var single, spaced [][]byte
	for i := range all {
		single = append(single, all[i:i+1])
		spaced = append(spaced, nil, all[i:i+1], []byte{})
	}
	fed(t, single...)
	fed(t, spaced...)
	for i := 0; i <= len(all); i++ {
		fed(t, all[:i], all[i:])
		fed(t, nil, all[:i], nil, []byte{}, all[i:], nil)
	}
	for i := 0; i <= len(all); i += step {
		for k := i; k <= len(all); k += step {
			fed(t, all[:i], all[i:k], all[k:])
		}
	}
}

func TestCuts(t *testing.T) {
	for _, all := range []string{
		"", "\x00", "\x00\x01", "\x00\x01a", "\x00\x01a\x00\x02bc\x00\x03def", "\x00\x01a\x00\x02b", "\x00\x02\x00\x00\x00\x02\x08\x01\x00",
		"\x00\x00", "\x00\x00\x00\x01a", "\x08\x01\x00\x01a", "\xff\xff\x00\x01a", "\x00\x01a\x00\x00\x00\x01b", "\x00\x01a\x00\x02bc\x08\x01\x00\x01d", "\x00\x02a\x00\xff\xff\x00\x01d",
	} {
		cuts(t, []byte(all), 1)
	}
	cuts(t, slices.Concat(framed(3), framed(256), framed(1), framed(2), []byte("\x00\x09abc")), 9)
	cuts(t, slices.Concat(framed(256), framed(1), []byte("\x09\x00"), framed(40)), 9)
}

// TestCutsOfLongFrames cuts a frame of MaxFrame bytes at each place, ahead of one byte more, and of a break.
func TestCutsOfLongFrames(t *testing.T) {
	for _, all := range [][]byte{slices.Concat(framed(2048), framed(1)), slices.Concat(framed(1), framed(2048), framed(2049)), slices.Concat(framed(2047), []byte("\x00\x00"), framed(1))} {
		fed(t, all)
		for i := 0; i <= len(all); i++ {
			fed(t, all[:i], nil, all[i:])
		}
		f := fed(t)
		for i := range all {
			f.feed(t, all[i:i+1])
		}
	}
}

// pieces cuts all at the places whose bits are set.
func pieces(all []byte, places int) [][]byte {
	var l [][]byte
	from := 0
	for i := 1; i < len(all); i++ {
		if places>>(i-1)&1 == 1 {
			l = append(l, all[from:i])
			from = i
		}
	}
	return append(l, all[from:])
}

// TestAllShortStreams goes through each stream of some letters up to six bytes, in each way in which it can be cut.
func TestAllShortStreams(t *testing.T) {
	letters := []byte{0, 1, 2, 8, 255}
	for length, count := 1, 5; length <= 6; length, count = length+1, count*5 {
		all := make([]byte, length)
		for which := range count {
			for i, rest := 0, which; i < length; i, rest = i+1, rest/5 {
				all[i] = letters[rest%5]
			}
			for places := range 1 << (length - 1) {
				fed(t, pieces(all, places)...)
			}
		}
	}
}

// TestDrawnStreams feeds long streams in drawn pieces.
func TestDrawnStreams(t *testing.T) {
	seed := uint32(7)
	draw := func(n int) int {
		seed = seed*1664525 + 1013904223
		return int(seed>>8) % n
	}
	for range 300 {
		var all []byte
		for range draw(12) {
			switch draw(12) {
			case 0:
				all = append(all, framed(2048-draw(3))...)
			case 1:
				all = append(all, framed(254+draw(4))...)
			case 2:
				if draw(4) == 0 {
					all = append(all, [][]byte{{0, 0}, {8, 1}, {9, 0}, {255, 255}}[draw(4)]...)
				}
			default:
				all = append(all, framed(1+draw(20))...)
			}
		}
		all = all[:len(all)-draw(1+min(len(all), 30))]
		f := fed(t)
		for most := 1 + draw(1+draw(3000)); len(all) > 0; {
			n := draw(1 + min(most, len(all)))
			f.feed(t, all[:n])
			all = all[n:]
		}
	}
}
