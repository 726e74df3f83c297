package tree

import (
	"math"
	"math/rand"
	"slices"
	"strconv"
	"strings"
	"testing"

	"godown/api"
)

// canonBits are those of the one NaN that stands for all, as layer 1 has it.
const canonBits = 0x7ff8000000000001

var minusNought = math.Copysign(0, -1)

// anyStamps holds stamps of every sort, each with the bits of its canon.
func anyStamps() map[uint64]uint64 {
	m := map[uint64]uint64{0: 0, 1 << 63: 0}
	for _, x := range []float64{1, -1, 1.5, 1e300, -1e-300, math.Inf(1), math.Inf(-1), math.MaxFloat64, math.SmallestNonzeroFloat64} {
		m[math.Float64bits(x)] = math.Float64bits(x)
	}
	for _, b := range []uint64{canonBits, 0x7ff8000000000000, 0x7ff0000000000001, 0x7fffffffffffffff, 0xfff8000000000001, 0xfff0000000000001, 0xffffffffffffffff, 0x7ff8000000000002} {
		m[b] = canonBits
	}
	return m
}

func file(data string, run bool, stamp float64) api.Node {
	return api.Node{Kind: api.File, Data: []byte(data), Run: run, Stamp: stamp}
}

func link(target string) api.Node {
	return api.Node{Kind: api.Link, Target: target}
}

func dir(names []string, kids ...api.Node) api.Node {
	return api.Node{Kind: api.Dir, Names: names, Kids: kids}
}

// one answers a directory of one kid by that name.
func one(name string, kid api.Node) api.Node {
	return dir([]string{name}, kid)
}

// deep answers n in as many directories as are told.
func deep(n api.Node, dirs int) api.Node {
	for range dirs {
		n = one("d", n)
	}
	return n
}

// wide answers a directory of that many empty files.
func wide(files int) api.Node {
	n := dir(nil)
	for i := range files {
		n.Names = append(n.Names, "f"+strconv.Itoa(1000+i))
		n.Kids = append(n.Kids, api.Node{Kind: api.File})
	}
	return n
}

// sample answers a tree with all kinds, anew at each call.
func sample() api.Node {
	sub := dir([]string{"f", "l", "none"}, file("abc", true, 5), link("../x"), dir(nil))
	return dir([]string{"a", "b", "\xff"}, sub, file("", false, math.NaN()), one("..a", file("\x00\xff", false, minusNought)))
}

// telling tells all of a node, its stamps by their very bits.
func telling(n api.Node) string {
	s := "(" + strconv.Itoa(int(n.Kind)) + " " + strconv.FormatBool(n.Run) + " " + strconv.FormatUint(math.Float64bits(n.Stamp), 16)
	s += " " + strconv.Quote(string(n.Data)) + " " + strconv.Quote(n.Target)
	for _, name := range n.Names {
		s += " " + strconv.Quote(name)
	}
	for _, kid := range n.Kids {
		s += telling(kid)
	}
	return s + ")"
}

// overwrite writes into everything that a node has, up to what its lists have room for.
func overwrite(n api.Node) {
	for i := range n.Data[:cap(n.Data)] {
		n.Data[:cap(n.Data)][i] ^= 0xa5
	}
	for i := range n.Names[:cap(n.Names)] {
		n.Names[:cap(n.Names)][i] += "/over"
	}
	for i := range n.Kids[:cap(n.Kids)] {
		overwrite(n.Kids[:cap(n.Kids)][i])
		n.Kids[:cap(n.Kids)][i] = api.Node{Kind: 99, Run: true, Stamp: 77, Target: "over"}
	}
}

// anyNode answers a node that is hardly ever Right, of any kind and with any fields.
func anyNode(r *rand.Rand, depth int) api.Node {
	n := api.Node{Kind: byte(r.Intn(6)), Run: r.Intn(2) == 0, Data: make([]byte, r.Intn(4)), Target: strings.Repeat("t", r.Intn(3))}
	n.Stamp = []float64{0, minusNought, 3, math.Inf(1), math.NaN(), math.Float64frombits(0xfff8000000000005)}[r.Intn(6)]
	for range r.Intn(3) {
		n.Names = append(n.Names, strings.Repeat("n", r.Intn(3)))
	}
	if depth > 0 {
		for range r.Intn(4) {
			n.Kids = append(n.Kids, anyNode(r, depth-1))
		}
	}
	return n
}

func TestExample(t *testing.T) {
	n := one("a", file("\xff", false, 0))
	if Count(n) != 2 || Depth(n) != 2 || Size(n) != 1 {
		t.Error(Count(n), Depth(n), Size(n))
	}
}

func TestRightKinds(t *testing.T) {
	for kind := range 256 {
		k := byte(kind)
		if got, want := Right(api.Node{Kind: k}), k == api.Dir || k == api.File; got != want {
			t.Error("alone", kind, got)
		}
		if got, want := Right(api.Node{Kind: k, Target: "x"}), k == api.Link; got != want {
			t.Error("with a target", kind, got)
		}
		if got, want := Right(one("a", api.Node{Kind: k})), k == api.Dir || k == api.File; got != want {
			t.Error("as a kid", kind, got)
		}
	}
	if !Right(sample()) {
		t.Error("sample")
	}
}

// TestRightFields puts each field alone into each kind: what the kind doesn't have it may not have.
func TestRightFields(t *testing.T) {
	f := file("", false, 0)
	for _, c := range []struct {
		what string
		put  func(n *api.Node)
		has  []byte
	}{
		{"names", func(n *api.Node) { n.Names = []string{"a"} }, nil},
		{"kids", func(n *api.Node) { n.Kids = []api.Node{f} }, nil},
		{"both", func(n *api.Node) { n.Names, n.Kids = []string{"a"}, []api.Node{f} }, []byte{api.Dir}},
		{"data", func(n *api.Node) { n.Data = []byte{0} }, []byte{api.File}},
		{"run", func(n *api.Node) { n.Run = true }, []byte{api.File}},
		{"stamp", func(n *api.Node) { n.Stamp = 1 }, []byte{api.File}},
		{"no number", func(n *api.Node) { n.Stamp = math.NaN() }, []byte{api.File}},
		{"the least stamp", func(n *api.Node) { n.Stamp = math.SmallestNonzeroFloat64 }, []byte{api.File}},
		{"a nought with a sign", func(n *api.Node) { n.Stamp = minusNought }, []byte{api.Dir, api.File, api.Link}},
		{"lists of nothing", func(n *api.Node) { n.Names, n.Kids, n.Data = []string{}, []api.Node{}, []byte{} }, []byte{api.Dir, api.File, api.Link}},
	} {
		for _, n := range []api.Node{{Kind: api.Dir}, {Kind: api.File}, {Kind: api.Link, Target: "x"}} {
			c.put(&n)
			want := slices.Contains(c.has, n.Kind)
			if Right(n) != want {
				t.Error(c.what, "of", n.Kind, "should be", want)
			}
			for dirs := range 7 {
				if Right(deep(n, dirs)) != want {
					t.Error(c.what, "of", n.Kind, "in", dirs, "should be", want)
				}
			}
		}
	}
	if Right(api.Node{Kind: api.Dir, Target: "x"}) || Right(api.Node{Kind: api.File, Target: "x"}) {
		t.Error("a target of what is no link")
	}
}

func TestRightStamps(t *testing.T) {
	for b := range anyStamps() {
		x := math.Float64frombits(b)
		if !Right(file("a", true, x)) {
			t.Errorf("a file of %x", b)
		}
		none := b == 0 || b == 1<<63
		if Right(api.Node{Kind: api.Dir, Stamp: x}) != none || Right(api.Node{Kind: api.Link, Target: "x", Stamp: x}) != none {
			t.Errorf("a dir, or a link, of %x", b)
		}
	}
}

func TestRightName(t *testing.T) {
	long := strings.Repeat("n", 40)
	for name, want := range map[string]bool{
		"a": true, " ": true, "...": true, "..a": true, ".a": true, "a.": true, "a..": true, "\x01": true, "\xff\xfe": true, "\\": true, "\n": true, "é": true,
		long: true, strings.Repeat("é", 20): true, strings.Repeat("\xff", 40): true,
		"": false, ".": false, "..": false, "/": false, "a/": false, "/a": false, "a/b": false, "\x00": false, "a\x00": false, "\x00a": false,
		long + "n": false, strings.Repeat("é", 20) + "a": false, long[1:] + "/": false, long[1:] + "\x00": false, strings.Repeat("n", 70000): false,
	} {
		if Right(one(name, dir(nil))) != want {
			t.Errorf("%q should be %v", name, want)
		}
	}
	for b := range 256 {
		name := string([]byte{byte(b)})
		if Right(one(name, dir(nil))) != !strings.Contains("\x00/.", name) {
			t.Errorf("%q", name)
		}
		name = "a" + name + "b"
		if Right(one(name, dir(nil))) != !strings.ContainsAny(name, "\x00/") {
			t.Errorf("%q", name)
		}
	}
}

func TestRightOrder(t *testing.T) {
	for _, c := range []struct {
		names string
		want  bool
	}{
		{"a b", true}, {"b a", false}, {"a a", false}, {"a aa", true}, {"aa a", false}, {"a b c", true}, {"a c b", false}, {"b a c", false},
		{"a b b", false}, {"a a b", false}, {"a b a", false}, {"B a", true}, {"a B", false}, {"a é", true}, {"é z", false}, {"\x7f \x80", true}, {"\x80 \x7f", false},
		{"10 9", true}, {"9 10", false}, {"c b a", false}, {"z \xff", true}, {"a ..", false}, {".. a", false}, {"- . a", false},
	} {
		names := strings.Split(c.names, " ")
		if got := Right(dir(names, make([]api.Node, len(names))...)); got {
			t.Errorf("%q: kids of no kind", names)
		}
		kids := slices.Repeat([]api.Node{link("x")}, len(names))
		if got := Right(dir(names, kids...)); got != c.want {
			t.Errorf("%q: %v", names, got)
		}
		if got := Right(one("up", dir(names, kids...))); got != c.want {
			t.Errorf("%q in another: %v", names, got)
		}
	}
}

func TestRightAsManyKids(t *testing.T) {
	all := []string{"a", "b", "c", "d"}
	for names := range 5 {
		for kids := range 5 {
			n := dir(all[:names], slices.Repeat([]api.Node{link("x")}, kids)...)
			if got := Right(n); got != (names == kids) {
				t.Error(names, "names", kids, "kids", got)
			}
		}
	}
}

func TestRightLengths(t *testing.T) {
	for _, c := range []struct {
		size           int
		asData, asLink bool
	}{{0, true, false}, {1, true, true}, {1023, true, true}, {1024, true, true}, {1025, false, false}, {65536, false, false}} {
		s := strings.Repeat("\x00", c.size)
		if Right(file(s, false, 0)) != c.asData || Right(one("a", file(s, false, 0))) != c.asData {
			t.Error("data of", c.size)
		}
		if Right(link(s)) != c.asLink || Right(one("a", link(s))) != c.asLink {
			t.Error("a target of", c.size)
		}
	}
	full := strings.Repeat("x", 1024)
	if !Right(dir([]string{"a", "b"}, file(full, false, 0), file(full, true, 0))) {
		t.Error("each file has room of its own")
	}
	if !Right(link("a/../\x00\xff")) {
		t.Error("a target may be any bytes")
	}
}

func TestRightDepth(t *testing.T) {
	for dirs := range 12 {
		for _, n := range []api.Node{dir(nil), file("a", false, 1), link("x")} {
			want := dirs+1 <= 8
			if got := Right(deep(n, dirs)); got != want {
				t.Error(n.Kind, "in", dirs, got)
			}
			if got := Right(dir([]string{"a", "b"}, link("x"), deep(n, dirs))); got != (dirs+2 <= 8) {
				t.Error(n.Kind, "beside another, in", dirs+1, got)
			}
		}
	}
}

func TestRightCount(t *testing.T) {
	for files := range 70 {
		if got := Right(wide(files)); got != (files+1 <= 64) {
			t.Error(files, "files", got)
		}
	}
	for a := 25; a < 40; a++ {
		for b := 25; b < 40; b++ {
			if got := Right(dir([]string{"a", "b"}, wide(a), wide(b))); got != (a+b+3 <= 64) {
				t.Error(a, b, got)
			}
		}
	}
}

// TestRightLast spoils one node of a tree that is as great as may be, each in turn.
func TestRightLast(t *testing.T) {
	for i := range 63 {
		n := wide(63)
		if !Right(n) {
			t.Fatal("wide")
		}
		n.Kids[i].Target = "x"
		if Right(n) {
			t.Error("kid", i)
		}
		n = wide(63)
		n.Names[i] = "."
		if Right(n) {
			t.Error("name", i)
		}
	}
}

// TestRightEnds asks of trees that are far beyond the bounds, one of them in itself.
func TestRightEnds(t *testing.T) {
	if Right(deep(dir(nil), 60000)) || Right(wide(300000)) {
		t.Error("beyond")
	}
	n := one("d", dir(nil))
	n.Kids[0] = n
	if Right(n) {
		t.Error("a tree in itself")
	}
	n = dir([]string{"a", "b"}, dir(nil), dir(nil))
	for range 40 {
		n = dir([]string{"a", "b"}, n, n)
	}
	if Right(n) {
		t.Error("the same kid twice, and so on")
	}
	if !Right(dir([]string{"a", "b"}, wide(3), wide(3))) {
		t.Error("alike kids")
	}
}

func TestDepthAndCount(t *testing.T) {
	for _, c := range []struct {
		n            api.Node
		depth, count int
	}{
		{api.Node{}, 1, 1}, {dir(nil), 1, 1}, {file("abc", true, 1), 1, 1}, {link("x"), 1, 1}, {api.Node{Kind: 200}, 1, 1},
		{sample(), 3, 8}, {wide(63), 2, 64}, {wide(64), 2, 65}, {deep(dir(nil), 7), 8, 8}, {deep(link("x"), 8), 9, 9},
		{dir([]string{"a", "b"}, deep(dir(nil), 3), dir(nil)), 5, 6}, {dir([]string{"a", "b"}, dir(nil), deep(dir(nil), 3)), 5, 6},
		{api.Node{Kind: api.Dir, Names: []string{"a", "b"}}, 1, 1},
		{api.Node{Kind: api.File, Kids: []api.Node{{}, {}}}, 2, 3},
		{api.Node{Kind: api.Link, Kids: []api.Node{{Kind: api.File, Kids: []api.Node{{}}}}}, 3, 3},
		{api.Node{Kind: 77, Kids: []api.Node{{Kind: 78, Kids: []api.Node{{}, {}}}, {}}}, 3, 5},
		{deep(dir(nil), 60000), 60001, 60001},
	} {
		if got := Depth(c.n); got != c.depth {
			t.Error("Depth", got, c.depth)
		}
		if got := Count(c.n); got != c.count {
			t.Error("Count", got, c.count)
		}
	}
}

func TestSizeAndStamps(t *testing.T) {
	inner := file("de", false, 2)
	inner.Kids = []api.Node{file("f", false, 3), {Kind: api.Link, Stamp: 9, Data: []byte("ghij")}}
	n := api.Node{Kind: 50, Stamp: 8, Data: []byte("a"), Kids: []api.Node{
		file("bc", false, 7), inner, {Kind: api.Dir, Stamp: 6, Data: []byte("klm"), Kids: []api.Node{file("", false, 7)}}, file("n", true, 1)}}
	if got := Size(n); got != 14 {
		t.Error("Size", got)
	}
	if got := Stamps(n); !slices.Equal(got, []float64{7, 2, 3, 7, 1}) {
		t.Error("Stamps", got)
	}
	for _, n := range []api.Node{{}, dir(nil), link("x"), {Kind: api.Dir, Stamp: 1}, {Kind: api.Link, Stamp: 1}, {Stamp: 1}} {
		if Size(n) != 0 || len(Stamps(n)) != 0 {
			t.Error(Size(n), Stamps(n))
		}
	}
	if got := Size(file(strings.Repeat("x", 5000), false, 0)); got != 5000 {
		t.Error("Size", got)
	}
	for b := range anyStamps() {
		if got := Stamps(one("a", file("", false, math.Float64frombits(b)))); len(got) != 1 || math.Float64bits(got[0]) != b {
			t.Errorf("Stamps of %x: %x", b, got)
		}
	}
}

// TestAnyNodes holds all counts against sums over the parts.
func TestAnyNodes(t *testing.T) {
	r := rand.New(rand.NewSource(1))
	for range 3000 {
		n := anyNode(r, 4)
		before := telling(n)
		count, depth, size := 1, 0, len(n.Data)
		var stamps []float64
		if n.Kind == api.File {
			stamps = append(stamps, n.Stamp)
		}
		for _, kid := range n.Kids {
			count += Count(kid)
			depth = max(depth, Depth(kid))
			size += Size(kid)
			stamps = append(stamps, Stamps(kid)...)
		}
		got := Stamps(n)
		if Count(n) != count || Depth(n) != depth+1 || Size(n) != size || !slices.EqualFunc(got, stamps, sameBits) {
			t.Fatal(before, Count(n), Depth(n), Size(n), got)
		}
		Right(n)
		if c := Canon(n); !Same(c, n) || !Same(n, c) {
			t.Fatal("Canon of", before, "is", telling(c))
		}
		if telling(n) != before {
			t.Fatal("written over", before, telling(n))
		}
	}
}

func sameBits(x, y float64) bool {
	return math.Float64bits(x) == math.Float64bits(y)
}

func TestCanonStamps(t *testing.T) {
	for b, want := range anyStamps() {
		x := math.Float64frombits(b)
		for _, kind := range []byte{0, api.Dir, api.File, api.Link, 9} {
			n := api.Node{Kind: kind, Stamp: x, Kids: []api.Node{{Kind: kind, Stamp: x, Kids: []api.Node{{Stamp: x}}}}}
			c := Canon(n)
			for _, stamp := range []float64{c.Stamp, c.Kids[0].Stamp, c.Kids[0].Kids[0].Stamp} {
				if math.Float64bits(stamp) != want {
					t.Errorf("Canon of %x: %x", b, math.Float64bits(stamp))
				}
			}
			if again := Canon(c); telling(again) != telling(c) {
				t.Errorf("Canon of %x once more: %s", b, telling(again))
			}
			if math.Float64bits(n.Stamp) != b || math.Float64bits(n.Kids[0].Kids[0].Stamp) != b {
				t.Errorf("Canon wrote over %x", b)
			}
		}
	}
}

func TestCanonIsAlike(t *testing.T) {
	for _, n := range []api.Node{{}, sample(), wide(80), deep(file("x", true, 2), 20), {Kind: 9, Names: []string{"b", "a"}, Run: true, Target: "t", Data: []byte("d"), Stamp: 3}} {
		want := n
		if Count(n) == Count(sample()) {
			want.Kids = slices.Clone(n.Kids)
			want.Kids[1].Stamp = math.Float64frombits(canonBits)
			want.Kids[2] = one("..a", file("\x00\xff", false, 0))
		}
		if c := Canon(n); telling(c) != telling(want) {
			t.Error("Canon", telling(c), telling(want))
		}
	}
}

func TestCanonSharesNothing(t *testing.T) {
	r := rand.New(rand.NewSource(2))
	for i := range 500 {
		n := sample()
		if i > 0 {
			n = anyNode(r, 3)
		}
		before := telling(n)
		c := Canon(n)
		told := telling(c)
		overwrite(c)
		if telling(n) != before {
			t.Fatal("what is answered is shared", before)
		}
		c = Canon(n)
		overwrite(n)
		if telling(c) != told {
			t.Fatal("what was handed in is shared", before)
		}
	}
	data := []byte("abc")
	c := Canon(dir([]string{"a", "b"}, api.Node{Kind: api.File, Data: data}, api.Node{Kind: api.File, Data: data}))
	c.Kids[0].Data[0] = 'z'
	if string(c.Kids[1].Data) != "abc" {
		t.Error("two lists of one answer are shared")
	}
}

func TestSame(t *testing.T) {
	full := api.Node{Kind: 5, Names: []string{"a", "b"}, Kids: []api.Node{{Kind: 1}, {Kind: 2}}, Data: []byte("de"), Run: true, Stamp: 4, Target: "t"}
	changes := []func(n *api.Node){
		func(n *api.Node) { n.Kind++ },
		func(n *api.Node) { n.Kind = 0 },
		func(n *api.Node) { n.Names = nil },
		func(n *api.Node) { n.Names = n.Names[:1] },
		func(n *api.Node) { n.Names = []string{"a", "b", ""} },
		func(n *api.Node) { n.Names = []string{"a", "c"} },
		func(n *api.Node) { n.Names = []string{"b", "a"} },
		func(n *api.Node) { n.Names = []string{"ab"} },
		func(n *api.Node) { n.Kids = nil },
		func(n *api.Node) { n.Kids = n.Kids[:1] },
		func(n *api.Node) { n.Kids = []api.Node{{Kind: 1}, {Kind: 2}, {}} },
		func(n *api.Node) { n.Kids = []api.Node{{Kind: 2}, {Kind: 1}} },
		func(n *api.Node) { n.Kids = []api.Node{{Kind: 1}, {Kind: 2, Run: true}} },
		func(n *api.Node) { n.Data = nil },
		func(n *api.Node) { n.Data = []byte("d") },
		func(n *api.Node) { n.Data = []byte("df") },
		func(n *api.Node) { n.Data = []byte("de\x00") },
		func(n *api.Node) { n.Run = false },
		func(n *api.Node) { n.Stamp = 0 },
		func(n *api.Node) { n.Stamp = -4 },
		func(n *api.Node) { n.Stamp = math.NaN() },
		func(n *api.Node) { n.Target = "" },
		func(n *api.Node) { n.Target = "T" },
		func(n *api.Node) { n.Target = "tt" },
	}
	for dirs := range 12 {
		in := func(n api.Node) api.Node {
			return dir([]string{"a", "b", "c"}, link("x"), deep(n, dirs), link("y"))
		}
		if !Same(in(full), in(Canon(full))) {
			t.Error("alike in", dirs)
		}
		for i, change := range changes {
			n := Canon(full)
			change(&n)
			if Same(full, n) || Same(n, full) || Same(in(full), in(n)) || Same(in(n), in(full)) {
				t.Error("change", i, "in", dirs)
			}
		}
	}
	if !Same(api.Node{}, api.Node{Names: []string{}, Kids: []api.Node{}, Data: []byte{}}) {
		t.Error("nil and empty lists are the same")
	}
	if !Same(api.Node{}, api.Node{}) || !Same(sample(), sample()) || Same(sample(), api.Node{}) || Same(dir(nil), file("", false, 0)) {
		t.Error("kinds")
	}
}

func TestSameStamps(t *testing.T) {
	for a, x := range anyStamps() {
		for b, y := range anyStamps() {
			m, n := file("a", true, math.Float64frombits(a)), file("a", true, math.Float64frombits(b))
			if Same(m, n) != (x == y) || Same(deep(m, 3), deep(n, 3)) != (x == y) {
				t.Errorf("%x and %x", a, b)
			}
		}
	}
}

// places tells each node of a tree by the path of its names.
func places(n api.Node, path string, m map[string]api.Node) map[string]api.Node {
	m[path] = n
	for i, name := range n.Names {
		to := name
		if path != "" {
			to = path + "/" + name
		}
		places(n.Kids[i], to, m)
	}
	return m
}

func TestAt(t *testing.T) {
	for _, n := range []api.Node{sample(), wide(63), deep(file("x", true, 3), 7), link("a/b"), file("a/b", false, 1), dir(nil)} {
		m := places(n, "", map[string]api.Node{})
		if len(m) != Count(n) {
			t.Fatal("places", len(m))
		}
		for path, want := range m {
			if got, ok := At(n, path); !ok || telling(got) != telling(want) {
				t.Errorf("At %q: %v %s", path, ok, telling(got))
			}
			for _, wrong := range []string{path + "/", "/" + path, path + "//", path + "/nothing", path + "x", path + "\x00", path + "/.", path + "/..", "./" + path, strings.ReplaceAll(path, "/", "//")} {
				if _, is := m[wrong]; is {
					continue
				}
				if got, ok := At(n, wrong); ok || telling(got) != telling(api.Node{}) {
					t.Errorf("At %q: %v %s", wrong, ok, telling(got))
				}
			}
		}
	}
}

func TestAtNone(t *testing.T) {
	n := sample()
	for _, path := range []string{"/", "//", "c", "A", "a/", "/a", "a//f", "a/f/", "a/f/x", "a/l/x", "a/l/..", "b/x", "b/", "a/b", "f", ".", "..", "a/..", "a/none/", "a/none/x", "a f", "a\\f", "a/f/../f", strings.Repeat("/", 100000), strings.Repeat("a/", 100000)} {
		if got, ok := At(n, path); ok || telling(got) != telling(api.Node{}) {
			t.Errorf("At %.20q: %v", path, ok)
		}
	}
}

func TestAtSharesNothing(t *testing.T) {
	for path := range places(sample(), "", map[string]api.Node{}) {
		n := sample()
		before := telling(n)
		got, _ := At(n, path)
		told := telling(got)
		overwrite(got)
		if telling(n) != before {
			t.Errorf("At %q: what is answered is shared", path)
		}
		got, _ = At(n, path)
		overwrite(n)
		if telling(got) != told {
			t.Errorf("At %q: what was handed in is shared", path)
		}
	}
}

func TestAtKeepsStamps(t *testing.T) {
	for b := range anyStamps() {
		n := one("a", file("", false, math.Float64frombits(b)))
		x, _ := At(n, "a")
		all, _ := At(n, "")
		if math.Float64bits(x.Stamp) != b || math.Float64bits(all.Kids[0].Stamp) != b {
			t.Errorf("At changed the stamp %x", b)
		}
	}
}

// TestAtAnything: of nodes that aren't Right no answer is promised, but that there is one.
func TestAtAnything(t *testing.T) {
	r := rand.New(rand.NewSource(3))
	for range 3000 {
		n := anyNode(r, 3)
		for _, path := range []string{"", "/", "n", "nn", "n/n", "nn/n/", "n//n"} {
			At(n, path)
		}
	}
	if got, ok := At(dir([]string{"a", "b"}, link("x")), "b"); ok || telling(got) != telling(api.Node{}) {
		t.Error("a name without a kid")
	}
}
