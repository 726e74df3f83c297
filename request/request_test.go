package request

import (
	"bytes"
	"math"
	"math/rand"
	"reflect"
	"slices"
	"strings"
	"testing"

	"godown/api"
)

// decoded holds Decode's answer against the telling's.
func decoded(t *testing.T, p string) (api.Request, api.Errno) {
	t.Helper()
	r, e := Decode([]byte(p))
	want, wantE := untold(p)
	if e != wantE || !alike(r, want) {
		t.Errorf("Decode(%.80x): %v %d, want %v %d", p, r, e, want, wantE)
	}
	if e != api.OK && !reflect.DeepEqual(r, api.Request{}) {
		t.Errorf("Decode(%.80x): %v beside the error %d", p, r, e)
	}
	return r, e
}

// refused asks for that error, whatever the telling says.
func refused(t *testing.T, what, p string, want api.Errno) {
	t.Helper()
	if _, e := decoded(t, p); e != want {
		t.Errorf("%s: %d, want %d", what, e, want)
	}
}

// thereAndBack asks for r's bytes, and for what r's Kind has of it.
func thereAndBack(t *testing.T, what string, r api.Request) {
	t.Helper()
	p := Encode(r)
	if string(p) != told(r) {
		t.Errorf("%s: %.80x, want %.80x", what, p, told(r))
	}
	if back, e := decoded(t, string(p)); e != api.OK || !alike(back, own(r)) {
		t.Errorf("%s: back %v %d, want %v", what, back, e, own(r))
	}
}

func register(outs ...api.Out) api.Request {
	return api.Request{Kind: api.Register, Outs: outs}
}

func TestExample(t *testing.T) {
	if p := Encode(api.Request{Kind: api.Collect}); string(p) != "\x0b" {
		t.Errorf("%x", p)
	}
	if r, e := Decode([]byte("\x0b")); e != api.OK || !alike(r, api.Request{Kind: api.Collect}) {
		t.Error(r, e)
	}
}

func TestEncodeBytes(t *testing.T) {
	two := register(api.Out{Name: "a", Archive: []byte{9}}, api.Out{Name: "b", Refs: []string{"x", ""}, Needs: []int{0, 0}})
	for _, c := range []struct {
		r    api.Request
		want string
	}{
		{api.Request{Kind: api.Add, Name: "n", Archive: []byte{7, 0}, Refs: []string{"r"}}, "\x01\x00\x01n\x00\x02\x07\x00\x01\x00\x01r"},
		{api.Request{Kind: api.Add}, "\x01\x00\x00\x00\x00\x00"},
		{api.Request{Kind: api.Valid, Path: "p"}, "\x02\x00\x01p"},
		{api.Request{Kind: api.Info, Path: "p"}, "\x03\x00\x01p"},
		{api.Request{Kind: api.Refs, Path: "p"}, "\x04\x00\x01p"},
		{api.Request{Kind: api.Referrers, Path: "p"}, "\x05\x00\x01p"},
		{api.Request{Kind: api.Closure, Path: "p"}, "\x06\x00\x01p"},
		{two, "\x07\x02\x00\x01a\x00\x01\x09\x00\x00\x00\x01b\x00\x00\x02\x00\x01x\x00\x00\x02\x00\x00"},
		{api.Request{Kind: api.Root, Path: "p"}, "\x08\x00\x01p"},
		{api.Request{Kind: api.Unroot, Path: ""}, "\x09\x00\x00"},
		{api.Request{Kind: api.Delete, Path: "p"}, "\x0a\x00\x01p"},
		{api.Request{Kind: api.Collect}, "\x0b"},
		{api.Request{Kind: api.Verify}, "\x0c"},
	} {
		if p := Encode(c.r); string(p) != c.want {
			t.Errorf("%v: %x, want %x", c.r, p, c.want)
		}
		if r, e := Decode([]byte(c.want)); e != api.OK || !alike(r, c.r) {
			t.Errorf("%x: %v %d, want %v", c.want, r, e, c.r)
		}
	}
}

func TestThereAndBackOfEachKind(t *testing.T) {
	long := strings.Repeat("\xff\x00", 700)
	for k := byte(1); k <= 12; k++ {
		for _, s := range []string{"", "s", "\x00", "\xc3", long[:255], long[:256], long[:257], long} {
			thereAndBack(t, Kind(k), api.Request{Kind: k, Path: s, Outs: []api.Out{{}}})
			thereAndBack(t, Kind(k), api.Request{Kind: k, Name: s, Outs: []api.Out{{Name: s}}})
			thereAndBack(t, Kind(k), api.Request{Kind: k, Archive: []byte(s), Outs: []api.Out{{Archive: []byte(s)}}})
			thereAndBack(t, Kind(k), api.Request{Kind: k, Refs: []string{s}, Outs: []api.Out{{Refs: []string{s}}}})
		}
		thereAndBack(t, Kind(k), full(k))
		thereAndBack(t, Kind(k), api.Request{Kind: k, Refs: []string{}, Archive: []byte{}, Outs: []api.Out{{Refs: []string{}, Archive: []byte{}, Needs: []int{}}}})
	}
}

func TestFieldsThatAKindDoesntHave(t *testing.T) {
	for k := byte(1); k <= 12; k++ {
		r := full(k)
		p := Encode(r)
		if !bytes.Equal(p, Encode(own(r))) {
			t.Errorf("%s: %x has a trace of more than %v", Kind(k), p, own(r))
		}
		back, e := Decode(p)
		if e != api.OK {
			t.Error(Kind(k), e)
		}
		if k != api.Add && (back.Name != "" || len(back.Archive) > 0 || len(back.Refs) > 0) {
			t.Errorf("%s: %v", Kind(k), back)
		}
		if !slices.Contains(pathKinds, k) && back.Path != "" || k != api.Register && len(back.Outs) > 0 {
			t.Errorf("%s: %v", Kind(k), back)
		}
	}
}

func TestOtherKinds(t *testing.T) {
	for i := range 256 {
		k := byte(i)
		if 1 <= k && k <= 12 {
			continue
		}
		if p := Encode(full(k)); string(p) != string([]byte{k}) {
			t.Errorf("kind %d: %x", k, p)
		}
		refused(t, "the Byte alone", string([]byte{k}), api.ErrForm)
		for j := byte(1); j <= 12; j++ {
			refused(t, "the fields of another", string([]byte{k})+told(full(j))[1:], api.ErrForm)
		}
	}
}

func TestNumbersByTheirLowestBits(t *testing.T) {
	for _, c := range []struct {
		need int
		want byte
	}{{255, 255}, {256, 0}, {257, 1}, {-1, 255}, {-256, 0}, {math.MaxInt, 255}, {math.MinInt, 0}, {0x1234567, 0x67}} {
		p := Encode(register(api.Out{Needs: []int{c.need}}))
		if want := "\x07\x01\x00\x00\x00\x00\x00\x01" + string([]byte{c.want}); string(p) != want {
			t.Errorf("a Need %d: %x, want %x", c.need, p, want)
		}
	}
}

func TestDecodeOfBentBytes(t *testing.T) {
	refused(t, "no bytes", "", api.ErrForm)
	if r, e := Decode(nil); e != api.ErrForm || !alike(r, api.Request{}) {
		t.Error("nil", r, e)
	}
	for k := byte(1); k <= 12; k++ {
		p := told(full(k))
		for at := range len(p) {
			refused(t, "cut", p[:at], api.ErrForm)
		}
		for b := range 256 {
			refused(t, "going on", p+string([]byte{byte(b)}), api.ErrForm)
		}
		refused(t, "going on", p+p, api.ErrForm)
		for b := range 256 {
			decoded(t, string([]byte{byte(b)})+p[1:])
			for at := range len(p) {
				decoded(t, p[:at]+string([]byte{byte(b)})+p[at+1:])
			}
		}
	}
}

func TestAnotherKindAhead(t *testing.T) {
	add, path, reg := told(full(api.Add))[1:], told(full(api.Root))[1:], told(full(api.Register))[1:]
	for _, k := range pathKinds {
		for _, rest := range []string{add, reg, ""} {
			refused(t, "a path's kind", string([]byte{k})+rest, api.ErrForm)
		}
	}
	for _, rest := range []string{path, reg, ""} {
		refused(t, "Add", "\x01"+rest, api.ErrForm)
	}
	for _, rest := range []string{path, add, ""} {
		refused(t, "Register", "\x07"+rest, api.ErrForm)
	}
	for _, rest := range []string{path, add, reg, "\x00", "\x00\x00"} {
		refused(t, "Collect", "\x0b"+rest, api.ErrForm)
		refused(t, "Verify", "\x0c"+rest, api.ErrForm)
	}
}

func TestHowManyRefs(t *testing.T) {
	for n := range 256 {
		want := api.ErrForm
		if n <= api.MaxRefs {
			want = api.OK
		}
		add := api.Request{Kind: api.Add, Name: "n", Archive: []byte("a"), Refs: many(n)}
		first := register(api.Out{Refs: many(n)}, api.Out{})
		last := register(api.Out{}, api.Out{Name: "n", Refs: many(n), Needs: []int{0}})
		each := register(api.Out{Refs: many(min(n, 16))}, api.Out{Refs: many(min(n, 16))}, api.Out{Refs: many(n)})
		for i, r := range []api.Request{add, first, last, each} {
			if p := Encode(r); string(p) != told(r) {
				t.Errorf("%d Refs, %d: %x", n, i, p)
			} else if back, e := decoded(t, string(p)); e != want || e == api.OK && !alike(back, r) {
				t.Errorf("%d Refs, %d: %d, want %d", n, i, e, want)
			}
		}
	}
}

func TestHowManyOuts(t *testing.T) {
	refused(t, "no Outs", "\x07\x00", api.ErrForm)
	refused(t, "no Outs, and more", "\x07\x00\x00", api.ErrForm)
	for n := range 256 {
		want := api.ErrForm
		if 1 <= n && n <= api.MaxOuts {
			want = api.OK
		}
		r := register(make([]api.Out, n)...)
		if p := Encode(r); string(p) != told(r) {
			t.Errorf("%d Outs: %x", n, p)
		} else if back, e := decoded(t, string(p)); e != want || e == api.OK && len(back.Outs) != n {
			t.Errorf("%d Outs: %d, want %d", n, e, want)
		}
		if n != 2 {
			refused(t, "more Outs told, or fewer, than there are", "\x07"+string([]byte{byte(n)})+toldOut(api.Out{})+toldOut(api.Out{}), api.ErrForm)
		}
	}
}

// TestEachNeed asks for each Need of each Out: it must be the place of one ahead.
func TestEachNeed(t *testing.T) {
	for outs := 1; outs <= api.MaxOuts; outs++ {
		for place := range outs {
			for need := range 256 {
				want := api.ErrForm
				if need < place {
					want = api.OK
				}
				r := register(make([]api.Out, outs)...)
				r.Outs[place].Needs = []int{need}
				if _, e := decoded(t, string(Encode(r))); e != want {
					t.Errorf("Need %d of Out %d of %d: %d, want %d", need, place, outs, e, want)
				}
				for behind := range 2 {
					r.Outs[place].Needs = slices.Insert([]int{0, 0}, behind+1, need)
					if _, e := decoded(t, string(Encode(r))); place > 0 && e != want {
						t.Errorf("Needs %v of Out %d of %d: %d, want %d", r.Outs[place].Needs, place, outs, e, want)
					}
				}
			}
		}
	}
}

func TestHowManyNeeds(t *testing.T) {
	for place := range api.MaxOuts {
		for n := range 256 {
			want := api.ErrForm
			if n == 0 || place > 0 && n < api.MaxOuts {
				want = api.OK
			}
			r := register(make([]api.Out, api.MaxOuts)...)
			r.Outs[place].Needs = make([]int, n)
			if p := Encode(r); string(p) != told(r) {
				t.Errorf("%d Needs of Out %d: %x", n, place, p)
			} else if back, e := decoded(t, string(p)); e != want || e == api.OK && !alike(back, r) {
				t.Errorf("%d Needs of Out %d: %d, want %d", n, place, e, want)
			}
		}
	}
	all := register(api.Out{}, api.Out{Needs: []int{0, 0, 0}}, api.Out{Needs: []int{1, 0}}, api.Out{Needs: []int{2, 1, 0}})
	thereAndBack(t, "Needs in no order, and some of them one", all)
}

func TestLargestRequest(t *testing.T) {
	add := api.Request{Kind: api.Add, Name: "n", Refs: []string{"r"}}
	add.Archive = bytes.Repeat([]byte{0xee}, api.MaxFrame-len(told(add)))
	thereAndBack(t, "an Add of MaxFrame bytes", add)
	path := api.Request{Kind: api.Delete, Path: strings.Repeat("p", api.MaxFrame-3)}
	thereAndBack(t, "a Delete of MaxFrame bytes", path)
	reg := register(api.Out{}, api.Out{Needs: []int{0}})
	reg.Outs[0].Archive = bytes.Repeat([]byte{1}, 1000)
	reg.Outs[1].Archive = bytes.Repeat([]byte{2}, api.MaxFrame-len(told(reg)))
	thereAndBack(t, "a Register of MaxFrame bytes", reg)

	add.Name += "n"
	path.Path += "p"
	reg.Outs[1].Name += "n"
	for _, r := range []api.Request{add, path, reg} {
		if p := Encode(r); string(p) != told(r) || len(p) != api.MaxFrame+1 {
			t.Errorf("%s: %d bytes", Kind(r.Kind), len(p))
		}
		refused(t, Kind(r.Kind), told(r), api.ErrLarge)
	}
}

func TestErrLargeIsAheadOfErrForm(t *testing.T) {
	for b := range 256 {
		wrong := strings.Repeat(string([]byte{byte(b)}), 3*api.MaxFrame)
		refused(t, "MaxFrame bytes that are none", wrong[:api.MaxFrame], api.ErrForm)
		refused(t, "one more", wrong[:api.MaxFrame+1], api.ErrLarge)
		refused(t, "many more", wrong, api.ErrLarge)
	}
	refused(t, "Collect going on", "\x0b"+strings.Repeat("\x00", api.MaxFrame-1), api.ErrForm)
	refused(t, "Collect going on and on", "\x0b"+strings.Repeat("\x00", api.MaxFrame), api.ErrLarge)
}

// TestDecodeOfShortBytes goes through all of up to two bytes, and all longer ones of those bytes that tell how many.
func TestDecodeOfShortBytes(t *testing.T) {
	for a := range 256 {
		decoded(t, string([]byte{byte(a)}))
		for b := range 256 {
			decoded(t, string([]byte{byte(a), byte(b)}))
		}
	}
	var longer func(p string, letters string, most int)
	longer = func(p string, letters string, most int) {
		decoded(t, p)
		for i := 0; i < len(letters) && len(p) < most; i++ {
			longer(p+letters[i:i+1], letters, most)
		}
	}
	for k := byte(1); k <= 12; k++ {
		longer(string([]byte{k}), "\x00\x01\x02", 9)
	}
	outs := "\x07\x02" + toldOut(api.Out{})
	longer(outs, "\x00\x01", len(outs)+11)
	longer(outs+"\x00\x00\x00\x00\x00", "\x00\x01\x02\x03\x04\xff", len(outs)+11)
}

func TestDecodeOfDrawnBytes(t *testing.T) {
	d := rand.New(rand.NewSource(11))
	right := 0
	for range 150000 {
		p := told(drawnRequest(d))
		for range d.Intn(4) {
			p = bent(d, p)
		}
		if r, e := decoded(t, p); e == api.OK {
			right++
			if back := Encode(r); string(back) != p {
				t.Errorf("Encode of the request of %x: %x", p, back)
			}
		}
	}
	if right < 30000 || right > 120000 {
		t.Errorf("%d of the bytes are requests: they tell little", right)
	}
}

func TestEncodeOfDrawnRequests(t *testing.T) {
	d := rand.New(rand.NewSource(12))
	for range 50000 {
		r := drawnRequest(d)
		r.Kind = byte(d.Intn(16))
		if p := Encode(r); string(p) != told(r) {
			t.Errorf("Encode(%v): %x, want %x", r, p, told(r))
		}
	}
}

func TestBeyondThePromiseEncodeEnds(t *testing.T) {
	long, l := strings.Repeat("x", 70000), make([]string, 300)
	o := api.Out{Name: long, Archive: []byte(long), Refs: append(l, long), Needs: make([]int, 300)}
	for k := range 256 {
		Encode(api.Request{Kind: byte(k), Name: long, Path: long, Archive: []byte(long), Refs: l, Outs: slices.Repeat([]api.Out{o}, 3)})
	}
	for _, k := range []byte{api.Add, api.Register, 13} {
		Encode(api.Request{Kind: k, Outs: slices.Repeat([]api.Out{o}, 300)})
	}
	for _, n := range []int{65535, 65536, 1 << 20} {
		refused(t, "large bytes", strings.Repeat("\x01", n), api.ErrLarge)
	}
}

func TestEncodeOfTheLongestPromised(t *testing.T) {
	long := strings.Repeat("\xa5", 65535)
	for _, r := range []api.Request{
		{Kind: api.Add, Name: long, Archive: []byte(long), Refs: many(255)},
		{Kind: api.Valid, Path: long},
		register(slices.Repeat([]api.Out{{Needs: make([]int, 255), Refs: many(9)}}, 255)...),
		register(api.Out{Name: long, Archive: []byte(long), Refs: many(255)}),
	} {
		if p := Encode(r); string(p) != told(r) {
			t.Errorf("%s: %d bytes", Kind(r.Kind), len(p))
		}
	}
}

// overwriteBytes writes over all of p, and over what there is behind it.
func overwriteBytes(p []byte) {
	p = p[:cap(p)]
	for i := range p {
		p[i] ^= 0xa5
	}
}

func overwriteTexts(l []string) {
	l = l[:cap(l)]
	for i := range l {
		l[i] += "over"
	}
}

func overwriteRequest(r api.Request) {
	overwriteBytes(r.Archive)
	overwriteTexts(r.Refs)
	for i := range r.Outs {
		o := &r.Outs[i]
		overwriteBytes(o.Archive)
		overwriteTexts(o.Refs)
		for j := range o.Needs[:cap(o.Needs)] {
			o.Needs[:cap(o.Needs)][j] += 100
		}
		*o = api.Out{Name: "over"}
	}
}

func TestNothingOfARequestIsShared(t *testing.T) {
	for k := byte(0); k <= 13; k++ {
		r := full(k)
		want := told(r)
		p := Encode(r)
		if !alike(r, full(k)) {
			t.Errorf("%s: Encode wrote into its request: %v", Kind(k), r)
		}
		overwriteRequest(r)
		if string(p) != want {
			t.Errorf("%s: the bytes hang on the request", Kind(k))
		}
		overwriteBytes(p)
		if again := Encode(full(k)); string(again) != want {
			t.Errorf("%s: the bytes are another call's too: %x", Kind(k), again)
		}
		if k == 0 || k == 13 {
			continue
		}
		p = []byte(want)
		back, _ := Decode(p)
		other, _ := Decode(p)
		if string(p) != want {
			t.Errorf("%s: Decode wrote into its bytes", Kind(k))
		}
		overwriteBytes(p)
		if !alike(back, own(full(k))) {
			t.Errorf("%s: the request hangs on the bytes", Kind(k))
		}
		overwriteRequest(back)
		if !alike(other, own(full(k))) {
			t.Errorf("%s: the request is another call's too", Kind(k))
		}
	}
}

// TestListsOfOneRequest writes over one list at a time: the others stay.
func TestListsOfOneRequest(t *testing.T) {
	same := api.Out{Name: "n", Archive: []byte("a"), Refs: []string{"r"}, Needs: []int{0}}
	first := same
	first.Needs = nil
	back := func() []api.Out {
		r, e := Decode(Encode(register(first, same, same)))
		if e != api.OK {
			t.Fatal(e)
		}
		return r.Outs
	}
	for i := range 3 {
		outs, want := back(), back()
		outs[i].Archive[0] = 'z'
		want[i].Archive = []byte("z")
		_ = append(outs[i].Archive, 'y')
		outs[i].Refs[0] = "z"
		want[i].Refs = []string{"z"}
		if i > 0 {
			outs[i].Needs[0] = 9
			want[i].Needs = []int{9}
		}
		for j := range outs {
			_ = append(outs[j].Needs, 7)
			_ = append(outs[j].Refs, "y")
		}
		if !slices.EqualFunc(outs, want, alikeOuts) {
			t.Errorf("%v, want %v", outs, want)
		}
	}
}

func TestKind(t *testing.T) {
	for i := range 256 {
		want := ""
		if 1 <= i && i <= 12 {
			want = names[i-1]
		}
		if got := Kind(byte(i)); got != want {
			t.Errorf("Kind(%d) = %q, want %q", i, got, want)
		}
	}
	for k, want := range map[byte]string{
		api.Add: "add", api.Valid: "valid", api.Info: "info", api.Refs: "refs", api.Referrers: "referrers", api.Closure: "closure",
		api.Register: "register", api.Root: "root", api.Unroot: "unroot", api.Delete: "delete", api.Collect: "collect", api.Verify: "verify",
	} {
		if got := Kind(k); got != want {
			t.Errorf("Kind(%d) = %q, want %q", k, got, want)
		}
	}
}
