package request

import (
	"math"
	"math/rand"
	"reflect"
	"slices"
	"strconv"
	"strings"
	"testing"

	"godown/api"
)

// decodedReply holds DecodeReply's answer against the telling's.
func decodedReply(t *testing.T, p string) (api.Reply, api.Errno) {
	t.Helper()
	r, e := DecodeReply([]byte(p))
	want, wantE := untoldReply(p)
	if e != wantE || !identical(r, want) {
		t.Errorf("DecodeReply(%.80x): %v %d, want %v %d", p, r, e, want, wantE)
	}
	if e != api.OK && !reflect.DeepEqual(r, api.Reply{}) {
		t.Errorf("DecodeReply(%.80x): %v beside the error %d", p, r, e)
	}
	return r, e
}

func noReply(t *testing.T, what, p string) {
	t.Helper()
	if _, e := decodedReply(t, p); e != api.ErrForm {
		t.Errorf("%s: %d, want ErrForm", what, e)
	}
}

// canon answers r with its Stamp's canon.
func canon(r api.Reply) api.Reply {
	r.Stamp = math.Float64frombits(bitsOf(r.Stamp))
	return r
}

func replyThereAndBack(t *testing.T, r api.Reply) {
	t.Helper()
	p := EncodeReply(r)
	if string(p) != toldReply(r) {
		t.Errorf("EncodeReply(%.200v): %.80x, want %.80x", r, p, toldReply(r))
	}
	back, e := decodedReply(t, string(p))
	if e != api.OK || !identical(back, canon(r)) {
		t.Errorf("%.200v: back %.200v %d", r, back, e)
	}
	if !Same(back, r) || !Same(r, back) || !Same(r, r) {
		t.Errorf("%.200v isn't the Same as what comes back, or as itself", r)
	}
}

// fullReply answers one with every field set, anew at each call.
func fullReply() api.Reply {
	return api.Reply{E: api.ErrRefs, Is: true, N: 0x1234, Stamp: -1.5, Sum: []byte("\x00s\xff"), Paths: []string{"p", "", "\xfe\x00"}}
}

const noughts = "\x00\x00\x00\x00\x00\x00\x00\x00"

func TestReplyBytes(t *testing.T) {
	for _, c := range []struct {
		r    api.Reply
		want string
	}{
		{api.Reply{}, "\x00\x00\x00\x00" + noughts + "\x00\x00\x00"},
		{api.Reply{E: api.ErrState}, "\x0a\x00\x00\x00" + noughts + "\x00\x00\x00"},
		{api.Reply{Is: true}, "\x00\x01\x00\x00" + noughts + "\x00\x00\x00"},
		{api.Reply{N: 258}, "\x00\x00\x01\x02" + noughts + "\x00\x00\x00"},
		{api.Reply{Stamp: 1.5}, "\x00\x00\x00\x00\x3f\xf8\x00\x00\x00\x00\x00\x00\x00\x00\x00"},
		{api.Reply{Stamp: math.Copysign(0, -1)}, "\x00\x00\x00\x00" + noughts + "\x00\x00\x00"},
		{api.Reply{Stamp: -math.NaN()}, "\x00\x00\x00\x00\x7f\xf8\x00\x00\x00\x00\x00\x01\x00\x00\x00"},
		{api.Reply{Stamp: math.Inf(-1)}, "\x00\x00\x00\x00\xff\xf0\x00\x00\x00\x00\x00\x00\x00\x00\x00"},
		{api.Reply{Stamp: math.Inf(1)}, "\x00\x00\x00\x00\x7f\xf0\x00\x00\x00\x00\x00\x00\x00\x00\x00"},
		{api.Reply{Sum: []byte{9, 0}}, "\x00\x00\x00\x00" + noughts + "\x00\x02\x09\x00\x00"},
		{api.Reply{Paths: []string{"p", ""}}, "\x00\x00\x00\x00" + noughts + "\x00\x00\x02\x00\x01p\x00\x00"},
		{fullReply(), "\x06\x01\x12\x34\xbf\xf8\x00\x00\x00\x00\x00\x00\x00\x03\x00s\xff\x03\x00\x01p\x00\x00\x00\x02\xfe\x00"},
	} {
		if p := EncodeReply(c.r); string(p) != c.want {
			t.Errorf("%v: %x, want %x", c.r, p, c.want)
		}
		if r, e := DecodeReply([]byte(c.want)); e != api.OK || !identical(r, canon(c.r)) {
			t.Errorf("%x: %v %d, want %v", c.want, r, e, c.r)
		}
	}
}

func TestReplyThereAndBack(t *testing.T) {
	for e := range 256 {
		replyThereAndBack(t, api.Reply{E: api.Errno(e)})
		replyThereAndBack(t, api.Reply{E: api.Errno(e), Is: true, N: e})
	}
	for n := range 65536 {
		replyThereAndBack(t, api.Reply{N: n})
	}
	for _, x := range stamps {
		replyThereAndBack(t, api.Reply{Stamp: x})
	}
	for shift := range 64 {
		replyThereAndBack(t, api.Reply{Stamp: math.Float64frombits(1 << shift)})
		replyThereAndBack(t, api.Reply{Stamp: math.Float64frombits(math.MaxUint64 >> shift)})
	}
	for _, n := range []int{0, 1, 20, 32, 255, 256, 257, 2048, 65534, 65535} {
		long := strings.Repeat("\xff", n)
		replyThereAndBack(t, api.Reply{Sum: []byte(long)})
		replyThereAndBack(t, api.Reply{Paths: []string{long}})
		replyThereAndBack(t, api.Reply{Paths: []string{"", long, "x"}})
	}
	for n := range 256 {
		replyThereAndBack(t, api.Reply{Paths: many(n)})
		replyThereAndBack(t, api.Reply{Paths: make([]string, n)})
	}
	replyThereAndBack(t, api.Reply{Sum: []byte{}, Paths: []string{}})
	replyThereAndBack(t, fullReply())
}

func TestReplyNumbersByTheirLowestBits(t *testing.T) {
	for _, c := range []struct {
		x    int
		e, n string
	}{
		{256, "\x00", "\x01\x00"}, {257, "\x01", "\x01\x01"}, {-1, "\xff", "\xff\xff"}, {65535, "\xff", "\xff\xff"}, {65536, "\x00", "\x00\x00"},
		{0x12345678, "\x78", "\x56\x78"}, {math.MaxInt, "\xff", "\xff\xff"}, {math.MinInt, "\x00", "\x00\x00"},
	} {
		p := EncodeReply(api.Reply{E: api.Errno(c.x), N: c.x})
		if want := c.e + "\x00" + c.n + noughts + "\x00\x00\x00"; string(p) != want {
			t.Errorf("%d: %x, want %x", c.x, p, want)
		}
	}
}

func TestReplyOfBentBytes(t *testing.T) {
	noReply(t, "no bytes", "")
	if r, e := DecodeReply(nil); e != api.ErrForm || !identical(r, api.Reply{}) {
		t.Error("nil", r, e)
	}
	for _, r := range []api.Reply{{}, fullReply(), {Stamp: math.NaN()}, {Stamp: math.Inf(-1), Paths: many(9)}} {
		p := toldReply(r)
		for at := range len(p) {
			noReply(t, "cut", p[:at])
			for b := range 256 {
				decodedReply(t, p[:at]+string([]byte{byte(b)})+p[at+1:])
			}
		}
		for b := range 256 {
			noReply(t, "going on", p+string([]byte{byte(b)}))
		}
		noReply(t, "going on", p+p)
		for b := 2; b < 256; b++ {
			noReply(t, "second byte "+strconv.Itoa(b), p[:1]+string([]byte{byte(b)})+p[2:])
		}
	}
}

func TestReplyOfBitsThatAreNoCanons(t *testing.T) {
	for _, bits := range []string{
		"\x80\x00\x00\x00\x00\x00\x00\x00", "\x7f\xf8\x00\x00\x00\x00\x00\x00", "\x7f\xf8\x00\x00\x00\x00\x00\x02", "\x7f\xf0\x00\x00\x00\x00\x00\x01",
		"\x7f\xff\xff\xff\xff\xff\xff\xff", "\xff\xf8\x00\x00\x00\x00\x00\x01", "\xff\xf0\x00\x00\x00\x00\x00\x01", "\xff\xff\xff\xff\xff\xff\xff\xff",
	} {
		noReply(t, "bits", "\x00\x00\x00\x00"+bits+"\x00\x00\x00")
		noReply(t, "bits", "\x06\x01\x00\x09"+bits+"\x00\x01s\x01\x00\x01p")
	}
	for _, bits := range []string{
		noughts, "\x7f\xf8\x00\x00\x00\x00\x00\x01", "\x7f\xf0\x00\x00\x00\x00\x00\x00", "\xff\xf0\x00\x00\x00\x00\x00\x00",
		"\x00\x00\x00\x00\x00\x00\x00\x01", "\x80\x00\x00\x00\x00\x00\x00\x01", "\xff\xef\xff\xff\xff\xff\xff\xff",
	} {
		if _, e := decodedReply(t, "\x00\x00\x00\x00"+bits+"\x00\x00\x00"); e != api.OK {
			t.Errorf("bits %x: %d", bits, e)
		}
	}
}

// TestReplyHasNoLimitOfARequest: MaxFrame, MaxRefs and MaxPaths aren't a reply's.
func TestReplyHasNoLimitOfARequest(t *testing.T) {
	for _, p := range []string{
		toldReply(api.Reply{Paths: many(255)}),
		toldReply(api.Reply{Sum: make([]byte, 65535), Paths: slices.Repeat([]string{strings.Repeat("p", 9999)}, 255)}),
	} {
		if _, e := decodedReply(t, p); e != api.OK {
			t.Errorf("%d bytes: %d", len(p), e)
		}
		noReply(t, "going on", p+"\x00")
		noReply(t, "cut", p[:len(p)-1])
	}
}

func TestReplyOfDrawnBytes(t *testing.T) {
	d := rand.New(rand.NewSource(13))
	right := 0
	for range 150000 {
		r := drawnReply(d)
		if p := EncodeReply(r); string(p) != toldReply(r) {
			t.Errorf("EncodeReply(%v): %x, want %x", r, p, toldReply(r))
		}
		p := toldReply(r)
		for range d.Intn(4) {
			p = bent(d, p)
		}
		if r, e := decodedReply(t, p); e == api.OK {
			right++
			if back := EncodeReply(r); string(back) != p {
				t.Errorf("EncodeReply of the reply of %x: %x", p, back)
			}
		}
	}
	if right < 30000 || right > 120000 {
		t.Errorf("%d of the bytes are replies: they tell little", right)
	}
}

func TestBeyondThePromiseEncodeReplyEnds(t *testing.T) {
	long := strings.Repeat("x", 70000)
	EncodeReply(api.Reply{E: -7, N: -7, Sum: []byte(long), Paths: append(make([]string, 300), long)})
	DecodeReply([]byte(strings.Repeat("\x01", 1<<20)))
	DecodeReply(make([]byte, 1<<20))
}

// unlike answers replies that each differ from fullReply in one field.
func unlike() []api.Reply {
	l := []api.Reply{}
	change := func(f func(r *api.Reply)) {
		r := fullReply()
		f(&r)
		l = append(l, r)
	}
	for _, e := range []api.Errno{0, 5, 7, 6 + 256, 6 - 256, -6} {
		change(func(r *api.Reply) { r.E = e })
	}
	change(func(r *api.Reply) { r.Is = false })
	for _, n := range []int{0, 0x1235, 0x1134, 0x1234 + 65536, -0x1234} {
		change(func(r *api.Reply) { r.N = n })
	}
	for _, x := range stamps {
		change(func(r *api.Reply) { r.Stamp = x })
	}
	for _, x := range []float64{1.5, math.Nextafter(-1.5, 0), math.Nextafter(-1.5, -2)} {
		change(func(r *api.Reply) { r.Stamp = x })
	}
	for _, s := range []string{"", "\x00", "\x00s", "\x00s\xff\x00", "\x00S\xff", "\xffs\x00", "s\xff"} {
		change(func(r *api.Reply) { r.Sum = []byte(s) })
	}
	change(func(r *api.Reply) { r.Sum = nil })
	for _, paths := range [][]string{
		nil, {}, {"p"}, {"p", ""}, {"p", "", "\xfe\x00", ""}, {"", "p", "\xfe\x00"}, {"p", "\xfe\x00", ""}, {"p", "\xfe\x00"}, {"p", "", "\xfe"}, {"p\xfe\x00"}, {"p", "x", "\xfe\x00"},
	} {
		change(func(r *api.Reply) { r.Paths = paths })
	}
	return l
}

func TestSame(t *testing.T) {
	if !Same(fullReply(), fullReply()) || !Same(api.Reply{}, api.Reply{}) {
		t.Error("a reply isn't the Same as one like it")
	}
	for _, r := range unlike() {
		if Same(r, fullReply()) || Same(fullReply(), r) {
			t.Errorf("%v is the Same as %v", r, fullReply())
		}
		if !Same(r, r) {
			t.Errorf("%v isn't the Same as itself", r)
		}
	}
	if !Same(api.Reply{Sum: []byte{}, Paths: []string{}}, api.Reply{}) || !Same(api.Reply{}, api.Reply{Sum: []byte{}, Paths: []string{}}) {
		t.Error("nil and empty aren't the Same")
	}
}

func TestSameOfStamps(t *testing.T) {
	for _, x := range stamps {
		for _, y := range stamps {
			a, b := fullReply(), fullReply()
			a.Stamp, b.Stamp = x, y
			if got, want := Same(a, b), bitsOf(x) == bitsOf(y); got != want {
				t.Errorf("Stamps %v and %v: %v", x, y, got)
			}
			b.N++
			if Same(a, b) {
				t.Errorf("Stamps %v and %v, and unlike N", x, y)
			}
		}
	}
}

// TestSameIsByBytes: replies whose numbers fit are the Same just if their bytes are.
func TestSameIsByBytes(t *testing.T) {
	d := rand.New(rand.NewSource(14))
	few := func() api.Reply {
		r := api.Reply{E: api.Errno(d.Intn(2)), Is: d.Intn(2) == 1, N: d.Intn(2), Stamp: stamps[d.Intn(len(stamps))]}
		r.Sum = slices.Repeat([]byte{1}, d.Intn(2))
		r.Paths = slices.Repeat([]string{"p"}, d.Intn(3))
		return r
	}
	for range 100000 {
		a, b := few(), few()
		if got, want := Same(a, b), toldReply(a) == toldReply(b); got != want {
			t.Errorf("Same(%v, %v): %v", a, b, got)
		}
	}
}

func TestNothingOfAReplyIsShared(t *testing.T) {
	want := toldReply(fullReply())
	r := fullReply()
	p := EncodeReply(r)
	if !Same(r, r) || !identical(r, fullReply()) {
		t.Errorf("a call wrote into its reply: %v", r)
	}
	overwriteBytes(r.Sum)
	overwriteTexts(r.Paths)
	if string(p) != want {
		t.Error("the bytes hang on the reply")
	}
	overwriteBytes(p)
	if again := EncodeReply(fullReply()); string(again) != want {
		t.Errorf("the bytes are another call's too: %x", again)
	}
	p = []byte(want)
	back, _ := DecodeReply(p)
	other, _ := DecodeReply(p)
	if string(p) != want {
		t.Error("DecodeReply wrote into its bytes")
	}
	overwriteBytes(p)
	if !identical(back, fullReply()) {
		t.Error("the reply hangs on the bytes")
	}
	overwriteBytes(back.Sum)
	overwriteTexts(back.Paths)
	if !identical(other, fullReply()) {
		t.Error("the reply is another call's too")
	}
}
