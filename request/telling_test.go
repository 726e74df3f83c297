package request

import (
	"math"
	"math/rand"
	"slices"
	"strings"

	"godown/api"
)

// What the chapter says, told once more: slowly, and without the layers below. The tests hold the package against it.

// names are the twelve kinds' in order, the first one's number being 1.
var names = []string{"add", "valid", "info", "refs", "referrers", "closure", "register", "root", "unroot", "delete", "collect", "verify"}

// pathKinds have a Path alone.
var pathKinds = []byte{api.Valid, api.Info, api.Refs, api.Referrers, api.Closure, api.Root, api.Unroot, api.Delete}

func num(n int) string {
	return string([]byte{byte(n / 256), byte(n % 256)})
}

func text(s string) string {
	return num(len(s)) + s
}

func texts(l []string) string {
	s := string([]byte{byte(len(l))})
	for _, x := range l {
		s += text(x)
	}
	return s
}

func toldOut(o api.Out) string {
	s := text(o.Name) + text(string(o.Archive)) + texts(o.Refs) + string([]byte{byte(len(o.Needs))})
	for _, n := range o.Needs {
		s += string([]byte{byte(n)})
	}
	return s
}

// told answers r's bytes.
func told(r api.Request) string {
	s := string([]byte{r.Kind})
	switch {
	case r.Kind == 1:
		return s + text(r.Name) + text(string(r.Archive)) + texts(r.Refs)
	case slices.Contains(pathKinds, r.Kind):
		return s + text(r.Path)
	case r.Kind == 7:
		s += string([]byte{byte(len(r.Outs))})
		for _, o := range r.Outs {
			s += toldOut(o)
		}
	}
	return s
}

// cutter reads from the beginning; what is wrong is kept till it is asked for.
type cutter struct {
	rest  string
	wrong bool
}

func (c *cutter) cut(n int) string {
	if c.wrong || n > len(c.rest) {
		c.wrong = true
		return strings.Repeat("\x00", min(n, 8))
	}
	s := c.rest[:n]
	c.rest = c.rest[n:]
	return s
}

func (c *cutter) byte() int {
	return int(c.cut(1)[0])
}

func (c *cutter) num() int {
	return 256*c.byte() + c.byte()
}

func (c *cutter) text() string {
	return c.cut(c.num())
}

// list reads as many as the next byte says, by one; more than most of them are wrong.
func (c *cutter) list(most int, one func(i int)) {
	n := c.byte()
	c.wrong = c.wrong || n > most
	for i := 0; i < n && !c.wrong; i++ {
		one(i)
	}
}

func (c *cutter) texts(most int) []string {
	var l []string
	c.list(most, func(int) { l = append(l, c.text()) })
	return l
}

func (c *cutter) out(place int) api.Out {
	o := api.Out{Name: c.text(), Archive: []byte(c.text()), Refs: c.texts(16)}
	c.list(3, func(int) {
		need := c.byte()
		c.wrong = c.wrong || need >= place
		o.Needs = append(o.Needs, need)
	})
	return o
}

// untold answers the request of p, and its error.
func untold(p string) (api.Request, api.Errno) {
	if len(p) > 2048 {
		return api.Request{}, api.ErrLarge
	}
	c := &cutter{rest: p}
	r := api.Request{Kind: byte(c.byte())}
	switch {
	case r.Kind == 1:
		r.Name, r.Archive, r.Refs = c.text(), []byte(c.text()), c.texts(16)
	case slices.Contains(pathKinds, r.Kind):
		r.Path = c.text()
	case r.Kind == 7:
		c.list(4, func(place int) { r.Outs = append(r.Outs, c.out(place)) })
		c.wrong = c.wrong || len(r.Outs) == 0
	case r.Kind < 11 || r.Kind > 12:
		c.wrong = true
	}
	if c.wrong || c.rest != "" {
		return api.Request{}, api.ErrForm
	}
	return r, api.OK
}

// canonBits are those of the one NaN that stands for all, as layer 1 has it.
const canonBits = 0x7ff8000000000001

// bitsOf answers those of x's canon.
func bitsOf(x float64) uint64 {
	switch {
	case x != x:
		return canonBits
	case x == 0:
		return 0
	}
	return math.Float64bits(x)
}

// toldReply answers r's bytes.
func toldReply(r api.Reply) string {
	s := string([]byte{byte(r.E), 0})
	if r.Is {
		s = string([]byte{byte(r.E), 1})
	}
	s += string([]byte{byte(r.N >> 8), byte(r.N)})
	for shift := 56; shift >= 0; shift -= 8 {
		s += string([]byte{byte(bitsOf(r.Stamp) >> shift)})
	}
	return s + text(string(r.Sum)) + texts(r.Paths)
}

// untoldReply answers the reply of p, and its error.
func untoldReply(p string) (api.Reply, api.Errno) {
	c := &cutter{rest: p}
	r := api.Reply{E: api.Errno(c.byte())}
	is := c.byte()
	r.Is = is == 1
	r.N = c.num()
	bits := uint64(0)
	for range 8 {
		bits = bits*256 + uint64(c.byte())
	}
	r.Stamp = math.Float64frombits(bits)
	r.Sum = []byte(c.text())
	r.Paths = c.texts(255)
	if c.wrong || c.rest != "" || is > 1 || bitsOf(r.Stamp) != bits {
		return api.Reply{}, api.ErrForm
	}
	return r, api.OK
}

func alikeOuts(a, b api.Out) bool {
	return a.Name == b.Name && string(a.Archive) == string(b.Archive) && slices.Equal(a.Refs, b.Refs) && slices.Equal(a.Needs, b.Needs)
}

// alike tells whether all fields are, those too that the Kind doesn't have. A list of nothing is nil or empty.
func alike(a, b api.Request) bool {
	return a.Kind == b.Kind && a.Name == b.Name && a.Path == b.Path && string(a.Archive) == string(b.Archive) &&
		slices.Equal(a.Refs, b.Refs) && slices.EqualFunc(a.Outs, b.Outs, alikeOuts)
}

// identical tells whether two replies have the very same fields, to the bits of their Stamps.
func identical(a, b api.Reply) bool {
	return a.E == b.E && a.Is == b.Is && a.N == b.N && math.Float64bits(a.Stamp) == math.Float64bits(b.Stamp) &&
		string(a.Sum) == string(b.Sum) && slices.Equal(a.Paths, b.Paths)
}

// own answers r with the fields alone that its Kind has.
func own(r api.Request) api.Request {
	switch {
	case r.Kind == 1:
		return api.Request{Kind: r.Kind, Name: r.Name, Archive: r.Archive, Refs: r.Refs}
	case slices.Contains(pathKinds, r.Kind):
		return api.Request{Kind: r.Kind, Path: r.Path}
	case r.Kind == 7:
		return api.Request{Kind: r.Kind, Outs: r.Outs}
	}
	return api.Request{Kind: r.Kind}
}

// many answers n texts, rising in length, noughts and high bytes among them.
func many(n int) []string {
	var l []string
	for i := range n {
		l = append(l, strings.Repeat(string([]byte{byte(i), 0, 255}), i%3))
	}
	return l
}

// full answers a request of that kind with every field set, anew at each call.
func full(kind byte) api.Request {
	return api.Request{
		Kind: kind, Name: "name\x00\xff", Path: "path/\xfe", Archive: []byte("\x01\x00arch"), Refs: []string{"r", "", "rr"},
		Outs: []api.Out{
			{Name: "a", Archive: []byte{0}, Refs: []string{"x"}},
			{},
			{Name: "c", Refs: []string{"", "y"}, Needs: []int{1, 0, 1}},
			{Archive: []byte("ddd"), Needs: []int{2, 0}},
		},
	}
}

func drawnText(d *rand.Rand) string {
	p := make([]byte, d.Intn(5))
	d.Read(p)
	return string(p)
}

func drawnTexts(d *rand.Rand, most int) []string {
	l := make([]string, d.Intn(most+1))
	for i := range l {
		l[i] = drawnText(d)
	}
	return l
}

// drawnRequest answers one that may be, most often; its Needs are ahead of their Out but for some.
func drawnRequest(d *rand.Rand) api.Request {
	r := api.Request{
		Kind: byte(1 + d.Intn(12)), Name: drawnText(d), Path: drawnText(d), Archive: []byte(drawnText(d)), Refs: drawnTexts(d, 4),
	}
	if d.Intn(3) == 0 {
		r.Kind = api.Register
	}
	for place := range d.Intn(5) {
		o := api.Out{Name: drawnText(d), Archive: []byte(drawnText(d)), Refs: drawnTexts(d, 3)}
		for range d.Intn(4) {
			if place > 0 || d.Intn(20) == 0 {
				o.Needs = append(o.Needs, d.Intn(max(place, 1)))
			}
		}
		r.Outs = append(r.Outs, o)
	}
	return r
}

// stamps are of every sort.
var stamps = []float64{
	0, math.Copysign(0, -1), 1, -1, 1.5, 1e300, -1e-300, math.Inf(1), math.Inf(-1), math.MaxFloat64, math.SmallestNonzeroFloat64,
	math.NaN(), -math.NaN(), math.Float64frombits(canonBits), math.Float64frombits(0x7ff0000000000001),
	math.Float64frombits(0xffffffffffffffff), math.Float64frombits(0x7ff8000000000000),
}

func drawnReply(d *rand.Rand) api.Reply {
	return api.Reply{
		E: api.Errno(d.Intn(256)), Is: d.Intn(2) == 1, N: d.Intn(65536), Stamp: stamps[d.Intn(len(stamps))],
		Sum: []byte(drawnText(d)), Paths: drawnTexts(d, 4),
	}
}

// bent answers p with one thing done to it: a byte changed, taken, put in, or the rest cut off.
func bent(d *rand.Rand, p string) string {
	at := d.Intn(len(p) + 1)
	b := byte(d.Intn(256))
	if d.Intn(2) == 0 {
		b = byte(d.Intn(20))
	}
	if at == len(p) {
		return p + string([]byte{b})
	}
	switch d.Intn(4) {
	case 0:
		return p[:at]
	case 1:
		return p[:at] + p[at+1:]
	case 2:
		return p[:at] + string([]byte{b}) + p[at:]
	}
	return p[:at] + string([]byte{b}) + p[at+1:]
}
