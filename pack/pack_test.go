package pack

import (
	"bytes"
	"encoding/binary"
	"math"
	"math/rand"
	"slices"
	"strconv"
	"strings"
	"testing"

	"godown/api"
)

// canonBits are those of the one NaN that stands for all, as layer 1 has it.
const canonBits = 0x7ff8000000000001

// head is what each archive begins with, in bytes.
const head = "\x00\x07godown1"

var minusNought = math.Copysign(0, -1)

// anyStamps holds stamps of every sort, each with the bits of its canon.
func anyStamps() map[uint64]uint64 {
	m := map[uint64]uint64{0: 0, 1 << 63: 0}
	for _, x := range []float64{1, -1, 1.5, 1e300, -1e-300, math.Inf(1), math.Inf(-1), math.MaxFloat64, math.SmallestNonzeroFloat64} {
		m[math.Float64bits(x)] = math.Float64bits(x)
	}
	for _, b := range []uint64{canonBits, 0x7ff8000000000000, 0x7ff0000000000001, 0x7fffffffffffffff, 0xfff8000000000001, 0xfff0000000000001, 0xffffffffffffffff, 0x7ff8000000000002} {
		m[b] = canonBits
	}
	return m
}

func file(data string, run bool, stamp float64) api.Node {
	return api.Node{Kind: api.File, Data: []byte(data), Run: run, Stamp: stamp}
}

func link(target string) api.Node {
	return api.Node{Kind: api.Link, Target: target}
}

func dir(names []string, kids ...api.Node) api.Node {
	return api.Node{Kind: api.Dir, Names: names, Kids: kids}
}

// one answers a directory of one kid by that name.
func one(name string, kid api.Node) api.Node {
	return dir([]string{name}, kid)
}

// deep answers n in as many directories as are told.
func deep(n api.Node, dirs int) api.Node {
	for range dirs {
		n = one("d", n)
	}
	return n
}

// wide answers a directory of that many empty files.
func wide(files int) api.Node {
	n := dir(nil)
	for i := range files {
		n.Names = append(n.Names, "f"+strconv.Itoa(1000+i))
		n.Kids = append(n.Kids, api.Node{Kind: api.File})
	}
	return n
}

// sample answers a tree with all kinds, anew at each call.
func sample() api.Node {
	sub := dir([]string{"f", "l", "none"}, file("abc", true, 5), link("../x"), dir(nil))
	return dir([]string{"a", "b", "\xff"}, sub, file("", false, math.NaN()), one("..a", file("\x00\xff", false, minusNought)))
}

// rightNodes answers trees that may be, the edges of each bound among them.
func rightNodes() []api.Node {
	most := strings.Repeat("n", api.MaxName)
	return []api.Node{
		sample(), dir(nil), file("", false, 0), file("", true, 0), link("x"),
		file(strings.Repeat("\xd7", api.MaxData), true, -2.5), link(strings.Repeat("\x00", api.MaxData)),
		file(strings.Repeat("d", 255), false, 1), file(strings.Repeat("d", 256), false, 1), link(strings.Repeat("t", 257)),
		one(most, link("/")), one("\x01", dir(nil)), one("...", dir(nil)), dir([]string{"A", "a", "aa", "b"}, link("1"), link("2"), link("3"), link("4")),
		deep(dir(nil), api.MaxDepth-1), deep(file("x", true, math.Inf(-1)), api.MaxDepth-1), deep(link("x"), api.MaxDepth-1),
		wide(api.MaxNodes - 1), deep(wide(api.MaxNodes-api.MaxDepth+1), api.MaxDepth-2),
	}
}

// wrongNodes answers trees that may not be, each by a thing of its own.
func wrongNodes() map[string]api.Node {
	m := map[string]api.Node{
		"kind 0":             {},
		"kind 0, named":      {Kind: 0, Target: "x"},
		"kind 4":             {Kind: 4},
		"kind 255":           {Kind: 255, Target: "x"},
		"link to nothing":    link(""),
		"long link":          link(strings.Repeat("t", api.MaxData+1)),
		"longest link":       link(strings.Repeat("t", 65535)),
		"long file":          file(strings.Repeat("d", api.MaxData+1), false, 0),
		"longest file":       file(strings.Repeat("d", 65535), false, 0),
		"empty name":         one("", dir(nil)),
		"dot":                one(".", dir(nil)),
		"dots":               one("..", dir(nil)),
		"slash":              one("a/b", dir(nil)),
		"nought in a name":   one("a\x00b", dir(nil)),
		"long name":          one(strings.Repeat("n", api.MaxName+1), dir(nil)),
		"names fall":         dir([]string{"b", "a"}, dir(nil), dir(nil)),
		"names alike":        dir([]string{"a", "a"}, dir(nil), dir(nil)),
		"names fall at last": dir([]string{"a", "c", "b"}, dir(nil), dir(nil), dir(nil)),
		"too deep":           deep(dir(nil), api.MaxDepth),
		"too deep a file":    deep(file("", false, 0), api.MaxDepth),
		"far too deep":       deep(dir(nil), 1000),
		"too many":           wide(api.MaxNodes),
		"too many, deeper":   deep(wide(api.MaxNodes-api.MaxDepth+2), api.MaxDepth-2),
		"far too many":       wide(255),
	}
	return m
}

// oddNodes answers trees that may not be, and of which no bytes could tell, as what a kind doesn't have isn't laid.
func oddNodes() map[string]api.Node {
	return map[string]api.Node{
		"dir with data":          {Kind: api.Dir, Data: []byte("x")},
		"dir with run":           {Kind: api.Dir, Run: true},
		"dir with stamp":         {Kind: api.Dir, Stamp: 1},
		"dir with target":        {Kind: api.Dir, Target: "x"},
		"more names than kids":   {Kind: api.Dir, Names: []string{"a"}},
		"more kids than names":   {Kind: api.Dir, Kids: []api.Node{dir(nil)}},
		"file with names":        {Kind: api.File, Names: []string{"a"}},
		"file with kids":         {Kind: api.File, Kids: []api.Node{dir(nil)}},
		"file with target":       {Kind: api.File, Target: "x"},
		"link with names":        {Kind: api.Link, Target: "x", Names: []string{"a"}},
		"link with kids":         {Kind: api.Link, Target: "x", Kids: []api.Node{dir(nil)}},
		"link with data":         {Kind: api.Link, Target: "x", Data: []byte("x")},
		"link with run":          {Kind: api.Link, Target: "x", Run: true},
		"link with stamp":        {Kind: api.Link, Target: "x", Stamp: math.NaN()},
		"far too many names":     {Kind: api.Dir, Names: make([]string, 300), Kids: make([]api.Node, 300)},
		"data beyond two bytes":  file(strings.Repeat("d", 65536), false, 0),
		"target beyond, and one": link(strings.Repeat("t", 65537)),
	}
}

// laid lays a node of any sort by the chapter's words, without the layers below. Stamps are laid by the bits that they have.
func laid(n api.Node) string {
	var p []byte
	text := func(s string) {
		p = append(binary.BigEndian.AppendUint16(p, uint16(len(s))), s...)
	}
	p = append(p, n.Kind)
	switch n.Kind {
	case api.Dir:
		p = append(p, byte(len(n.Names)))
		for i, name := range n.Names {
			text(name)
			p = append(p, laid(n.Kids[i])...)
		}
	case api.File:
		run := byte(0)
		if n.Run {
			run = 1
		}
		p = binary.BigEndian.AppendUint64(append(p, run), math.Float64bits(n.Stamp))
		text(string(n.Data))
	case api.Link:
		text(n.Target)
	}
	return string(p)
}

// canon answers another tree like it, with the one NaN and the one nought.
func canon(n api.Node) api.Node {
	if math.IsNaN(n.Stamp) {
		n.Stamp = math.Float64frombits(canonBits)
	} else if n.Stamp == 0 {
		n.Stamp = 0
	}
	n.Names, n.Data, n.Kids = slices.Clone(n.Names), slices.Clone(n.Data), slices.Clone(n.Kids)
	for i, kid := range n.Kids {
		n.Kids[i] = canon(kid)
	}
	return n
}

// telling tells all of a node, its stamps by their very bits.
func telling(n api.Node) string {
	s := "(" + strconv.Itoa(int(n.Kind)) + " " + strconv.FormatBool(n.Run) + " " + strconv.FormatUint(math.Float64bits(n.Stamp), 16)
	s += " " + strconv.Quote(string(n.Data)) + " " + strconv.Quote(n.Target)
	for _, name := range n.Names {
		s += " " + strconv.Quote(name)
	}
	for _, kid := range n.Kids {
		s += telling(kid)
	}
	return s + ")"
}

// overwrite writes into everything that a node has, up to what its lists have room for.
func overwrite(n api.Node) {
	for i := range n.Data[:cap(n.Data)] {
		n.Data[:cap(n.Data)][i] ^= 0xa5
	}
	for i := range n.Names[:cap(n.Names)] {
		n.Names[:cap(n.Names)][i] += "/over"
	}
	for i := range n.Kids[:cap(n.Kids)] {
		overwrite(n.Kids[:cap(n.Kids)][i])
		n.Kids[:cap(n.Kids)][i] = api.Node{Kind: 99, Run: true, Stamp: 77, Target: "over"}
	}
}

// written is Write of a tree that may be.
func written(t *testing.T, n api.Node) []byte {
	t.Helper()
	p, e := Write(n)
	if e != api.OK {
		t.Fatal(telling(n), e)
	}
	return p
}

// refused fails unless Read answers ErrForm, and nothing beside it.
func refused(t *testing.T, why, p string) {
	t.Helper()
	if n, e := Read([]byte(p)); e != api.ErrForm || telling(n) != telling(api.Node{}) {
		t.Errorf("%s: %x: %v %s", why, p, e, telling(n))
	}
}

func TestMagic(t *testing.T) {
	if Magic != "godown1" {
		t.Error(Magic)
	}
}

func TestExample(t *testing.T) {
	want := []byte{0x00, 0x07, 'g', 'o', 'd', 'o', 'w', 'n', '1', 0x03, 0x00, 0x01, 0x78}
	if p, e := Write(link("x")); e != api.OK || !bytes.Equal(p, want) {
		t.Errorf("%x %v", p, e)
	}
	if n, e := Read(want); e != api.OK || telling(n) != telling(link("x")) {
		t.Error(telling(n), e)
	}
}

// TestLaid holds archives against bytes that are written out.
func TestLaid(t *testing.T) {
	for _, c := range []struct {
		n    api.Node
		want string
	}{
		{dir(nil), "\x01\x00"},
		{file("", false, 0), "\x02\x00\x00\x00\x00\x00\x00\x00\x00\x00\x00\x00"},
		{file("ab", true, 1.5), "\x02\x01\x3f\xf8\x00\x00\x00\x00\x00\x00\x00\x02ab"},
		{file("\x00", false, math.NaN()), "\x02\x00\x7f\xf8\x00\x00\x00\x00\x00\x01\x00\x01\x00"},
		{link("../x"), "\x03\x00\x04../x"},
		{dir([]string{"a", "bc"}, one("d", link("x")), dir(nil)), "\x01\x02\x00\x01a\x01\x01\x00\x01d\x03\x00\x01x\x00\x02bc\x01\x00"},
	} {
		if p := written(t, c.n); string(p) != head+c.want {
			t.Errorf("%s: %x, not %x", telling(c.n), p, head+c.want)
		}
		if n, e := Read([]byte(head + c.want)); e != api.OK || telling(n) != telling(canon(c.n)) {
			t.Error(telling(c.n), telling(n), e)
		}
	}
}

func TestThereAndBack(t *testing.T) {
	for _, n := range rightNodes() {
		p := written(t, n)
		if want := head + laid(canon(n)); string(p) != want {
			t.Errorf("%s: %x, not %x", telling(n), p, want)
		}
		if got, e := Read(p); e != api.OK || telling(got) != telling(canon(n)) {
			t.Error(telling(n), telling(got), e)
		}
	}
}

func TestStamps(t *testing.T) {
	for bits, want := range anyStamps() {
		for dirs := range 3 {
			n := deep(file("x", true, math.Float64frombits(bits)), dirs)
			m := deep(file("x", true, math.Float64frombits(want)), dirs)
			p := written(t, n)
			if string(p) != head+laid(m) {
				t.Errorf("%x: %x", bits, p)
			}
			if got, e := Read(p); e != api.OK || telling(got) != telling(m) {
				t.Errorf("%x: %s %v", bits, telling(got), e)
			}
			if bits != want {
				refused(t, "no canon's bits", head+laid(n))
			}
		}
	}
}

// ways answers n at some depths, and beside others.
func ways(n api.Node) []api.Node {
	return []api.Node{n, one("a", n), deep(n, 3), dir([]string{"a", "b"}, n, link("x")), dir([]string{"a", "b", "c"}, dir(nil), file("x", true, 1), one("k", n))}
}

func TestWriteRefuses(t *testing.T) {
	for _, m := range []map[string]api.Node{wrongNodes(), oddNodes()} {
		for why, wrong := range m {
			for i, n := range ways(wrong) {
				if p, e := Write(n); e != api.ErrForm || len(p) != 0 {
					t.Errorf("%s %d: %x %v", why, i, p, e)
				}
			}
		}
	}
}

// TestReadRefusesTrees lays trees that aren't Right just as an archive would be.
func TestReadRefusesTrees(t *testing.T) {
	for why, wrong := range wrongNodes() {
		for _, n := range ways(wrong) {
			refused(t, why, head+laid(n))
		}
	}
}

func TestReadBegin(t *testing.T) {
	tree := laid(link("x"))
	refused(t, "nothing", "")
	if n, e := Read(nil); e != api.ErrForm || telling(n) != telling(api.Node{}) {
		t.Error(telling(n), e)
	}
	for _, s := range []string{"", Magic, "\x07" + Magic, "\x00\x06godown", "\x00\x08godown11", "\x00\x08godown1\x00", "\x00\x07godown2", "\x00\x07Godown1", "\x00\x06godown1", "\x00\x00", "\x00\x09\x00\x07godown1", "\x01\x07godown1", "\x07\x00godown1", head + head} {
		refused(t, "begins otherwise", s+tree)
	}
	for i := range len(head) {
		for bit := range 8 {
			p := []byte(head + tree)
			p[i] ^= 1 << bit
			refused(t, "a bit of the head is turned", string(p))
		}
	}
}

func TestReadEnd(t *testing.T) {
	for _, n := range rightNodes() {
		p := string(written(t, n))
		for i := range len(p) {
			refused(t, "ends too soon", p[:i])
		}
		for _, more := range []string{"\x00", "\x01\x00", "x", laid(n), p} {
			refused(t, "goes on", p+more)
		}
	}
}

func TestReadKinds(t *testing.T) {
	for kind := range 256 {
		for _, rest := range []string{"", "\x00", "\x00\x00", "\x00\x01x", "\x00\x00\x00\x00\x00\x00\x00\x00\x00\x00\x00"} {
			p := head + string([]byte{byte(kind)}) + rest
			if kind == api.Dir && rest == "\x00" || kind == api.File && len(rest) == 11 || kind == api.Link && rest == "\x00\x01x" {
				if n, e := Read([]byte(p)); e != api.OK || n.Kind != byte(kind) {
					t.Errorf("%d %x: %s %v", kind, rest, telling(n), e)
				}
				continue
			}
			refused(t, "kind", p)
			refused(t, "kind of a kid", head+"\x01\x01\x00\x01a"+p[len(head):])
		}
	}
}

func TestReadRun(t *testing.T) {
	for b := range 256 {
		for _, before := range []string{head, head + "\x01\x01\x00\x01a"} {
			p := before + "\x02" + string([]byte{byte(b)}) + "\x00\x00\x00\x00\x00\x00\x00\x00\x00\x01x"
			if b > 1 {
				refused(t, "run", p)
				continue
			}
			n, e := Read([]byte(p))
			if e == api.OK && n.Kind == api.Dir {
				n = n.Kids[0]
			}
			if e != api.OK || n.Run != (b == 1) {
				t.Error(b, telling(n), e)
			}
		}
	}
}

// TestReadCounts puts each number of kids ahead of some that are there.
func TestReadCounts(t *testing.T) {
	for there := range 4 {
		n := wide(there)
		for count := range 256 {
			p := []byte(head + laid(n))
			p[len(head)+1] = byte(count)
			if count != there {
				refused(t, "count", string(p))
			} else if m, e := Read(p); e != api.OK || telling(m) != telling(n) {
				t.Error(count, telling(m), e)
			}
		}
	}
}

// TestReadBeyond has bytes of far more than may be: they are given up without going all the way.
func TestReadBeyond(t *testing.T) {
	refused(t, "deep", head+strings.Repeat("\x01\x01\x00\x01d", 1<<22))
	refused(t, "deep and whole", head+strings.Repeat("\x01\x01\x00\x01d", 1<<16)+"\x01\x00")
	refused(t, "dirs that end", head+strings.Repeat("\x01\xff\x00\x01d", api.MaxDepth-1)+strings.Repeat("\x01\x00\x00\x01e", 1<<16))
	refused(t, "ones", head+strings.Repeat("\x01", 1<<16))
	refused(t, "twos", head+strings.Repeat("\x02", 1<<16))
	refused(t, "threes", head+strings.Repeat("\x03", 1<<16))
	refused(t, "noughts", head+strings.Repeat("\x00", 1<<16))
	refused(t, "full", head+strings.Repeat("\xff", 1<<16))
	refused(t, "longest text", head+"\x03\xff\xff"+strings.Repeat("t", 65535))
}

// TestReadStopsAtTooMany counts what is made on the way, as the answer alone can't tell.
func TestReadStopsAtTooMany(t *testing.T) {
	level := "\x01\xff" + strings.Repeat("\x00\x01a\x01\x00", 255)
	p := []byte(head + "\x01\xff" + strings.Repeat("\x00\x01a"+level, 255))
	if made := testing.AllocsPerRun(3, func() { Read(p) }); made > 400 {
		t.Error(made)
	}
}

// TestTurned turns each byte of archives: what is still one is that of one tree.
func TestTurned(t *testing.T) {
	still := 0
	for _, n := range rightNodes() {
		p := written(t, n)
		for i := range p {
			for _, by := range []byte{1, 3, 128, 255} {
				q := bytes.Clone(p)
				q[i] ^= by
				still += sameAgain(t, q)
			}
		}
	}
	if still < 1000 {
		t.Error("hardly any is still one:", still)
	}
}

// sameAgain answers 1 if q is an archive, and fails unless its tree has it for its own.
func sameAgain(t *testing.T, q []byte) int {
	t.Helper()
	n, e := Read(q)
	if e != api.OK {
		refused(t, "again", string(q))
		return 0
	}
	if r, e := Write(n); e != api.OK || !bytes.Equal(r, q) {
		t.Errorf("%x is read as %s, and that is %x %v", q, telling(n), r, e)
	}
	if telling(n) != telling(canon(n)) {
		t.Errorf("%x: no canons: %s", q, telling(n))
	}
	return 1
}

// anyBytes answers bytes that are often nearly an archive.
func anyBytes(r *rand.Rand) []byte {
	p := []byte(head)
	for range r.Intn(12) {
		part := []string{"\x01", "\x02", "\x03", "\x00", "\x00\x01a", "\x00\x01b", "\x01\x00", "\x01\x01", "\x01\x02", "\x03\x00\x01x", "\x02\x00\x00\x00\x00\x00\x00\x00\x00\x00\x00\x00", "\x02\x01\x7f\xf8\x00\x00\x00\x00\x00\x01\x00\x01y", "\x80", "\xff"}
		p = append(p, part[r.Intn(len(part))]...)
	}
	return p
}

func TestAnyBytes(t *testing.T) {
	r := rand.New(rand.NewSource(6))
	still := 0
	for range 200000 {
		still += sameAgain(t, anyBytes(r))
	}
	if still < 1000 {
		t.Error("hardly any is an archive:", still)
	}
}

// TestSameTrees has trees that differ in what isn't told apart: the bits of stamps, and lists that are nil or empty.
func TestSameTrees(t *testing.T) {
	for bits, want := range anyStamps() {
		for other, otherWant := range anyStamps() {
			a := written(t, one("a", file("x", false, math.Float64frombits(bits))))
			b := written(t, one("a", file("x", false, math.Float64frombits(other))))
			if bytes.Equal(a, b) != (want == otherWant) {
				t.Errorf("%x %x: %x %x", bits, other, a, b)
			}
		}
	}
	for _, pair := range [][2]api.Node{
		{{Kind: api.Dir}, {Kind: api.Dir, Names: []string{}, Kids: []api.Node{}, Data: []byte{}, Stamp: minusNought}},
		{{Kind: api.File}, {Kind: api.File, Names: []string{}, Kids: []api.Node{}, Data: []byte{}}},
		{{Kind: api.Link, Target: "x"}, {Kind: api.Link, Target: "x", Data: []byte{}, Stamp: minusNought}},
	} {
		if a, b := written(t, pair[0]), written(t, pair[1]); !bytes.Equal(a, b) {
			t.Errorf("%x %x", a, b)
		}
	}
}

// TestUnlikeTrees has one archive for each tree, so no two for one and no one for two.
func TestUnlikeTrees(t *testing.T) {
	seen := map[string]string{}
	trees := append(rightNodes(), file("a", false, 0), file("a", true, 0), file("b", false, 0), file("a", false, 1), link("a"), link("b"),
		one("a", link("a")), one("b", link("a")), one("a", file("a", false, 0)), dir([]string{"a", "b"}, link("a"), dir(nil)), dir([]string{"a", "b"}, dir(nil), link("a")), one("a", one("b", link("a"))))
	for _, n := range trees {
		p := string(written(t, n))
		if other, is := seen[p]; is && other != telling(canon(n)) {
			t.Error("one archive for two:", other, telling(n))
		}
		seen[p] = telling(canon(n))
	}
	if len(seen) != len(trees) {
		t.Error(len(seen), len(trees))
	}
}

func TestNothingShared(t *testing.T) {
	for _, n := range rightNodes() {
		told, want := telling(n), head+laid(canon(n))
		p := written(t, n)
		if telling(n) != told {
			t.Error("Write wrote into its node:", told, telling(n))
		}
		overwrite(n)
		if string(p) != want {
			t.Errorf("the archive changes with the node: %x, not %x", p, want)
		}
		m, _ := Read(p)
		if string(p) != want {
			t.Errorf("Read wrote into its bytes: %x, not %x", p, want)
		}
		back := telling(m)
		for i := range p[:cap(p)] {
			p[:cap(p)][i] ^= 0xa5
		}
		if telling(m) != back {
			t.Error("the node changes with the bytes:", back, telling(m))
		}
	}
}

// TestAnswersApart writes over one answer, and over one list of it, and looks at the others.
func TestAnswersApart(t *testing.T) {
	n := sample()
	p, q := written(t, n), written(t, n)
	for i := range p[:cap(p)] {
		p[:cap(p)][i] = 0xee
	}
	if string(q) != head+laid(canon(n)) || telling(n) != telling(sample()) {
		t.Errorf("%x %s", q, telling(n))
	}
	a, _ := Read(q)
	b, _ := Read(q)
	overwrite(a)
	if telling(b) != telling(canon(n)) || string(q) != head+laid(canon(n)) {
		t.Errorf("%x %s", q, telling(b))
	}
	overwrite(b.Kids[0])
	if telling(b.Kids[1]) != telling(canon(n.Kids[1])) || telling(b.Kids[2]) != telling(canon(n.Kids[2])) {
		t.Error(telling(b))
	}
}
