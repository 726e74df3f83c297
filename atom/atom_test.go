package atom

import (
	"bytes"
	"crypto/sha256"
	"math"
	"math/rand"
	"slices"
	"strconv"
	"strings"
	"testing"

	"godown/api"
	"godown/db"
)

var readers = []byte{api.Valid, api.Info, api.Refs, api.Referrers, api.Closure, api.Verify}

var writers = []byte{api.Add, api.Register, api.Root, api.Unroot, api.Delete, api.Collect}

func ask(kind byte, path string) api.Request { return api.Request{Kind: kind, Path: path} }

// sameReply holds Stamps against one another by their bits: a reply's is a Canon.
func sameReply(a, b api.Reply) bool {
	return a.E == b.E && a.Is == b.Is && a.N == b.N && math.Float64bits(a.Stamp) == math.Float64bits(b.Stamp) && bytes.Equal(a.Sum, b.Sum) && slices.Equal(a.Paths, b.Paths)
}

func answers(t *testing.T, what string, s *db.Store, r api.Request, want api.Reply) {
	t.Helper()
	if got := Do(s, r); !sameReply(got, want) {
		t.Errorf("%s: %v, want %v", what, got, want)
	}
}

// has tells that a store has just these rows and roots.
func has(t *testing.T, s *db.Store, roots []string, rows ...api.Row) {
	t.Helper()
	var paths []string
	for _, row := range rows {
		paths = append(paths, row.Path)
		if got, there := s.Get(row.Path); !there || !sameRow(got, row) {
			t.Errorf("the row of %s: %v, %t, want %v", row.Path, got, there, row)
		}
	}
	if !slices.Equal(s.Paths(), sorted(paths)) || !slices.Equal(s.Roots(), sorted(roots)) || !s.Check() {
		t.Errorf("there are %v, roots %v, Check %t; want %v, %v", s.Paths(), s.Roots(), s.Check(), sorted(paths), sorted(roots))
	}
}

// same tells that something changes nothing in a store.
func same(t *testing.T, s *db.Store, what func()) {
	t.Helper()
	version, roots := s.Version(), s.Roots()
	var rows []api.Row
	for _, path := range s.Paths() {
		row, _ := s.Get(path)
		rows = append(rows, row)
	}
	what()
	has(t, s, roots, rows...)
	if s.Version() != version {
		t.Errorf("Version %d, was %d", s.Version(), version)
	}
}

// keeps tells that a request is answered so, and changes nothing.
func keeps(t *testing.T, what string, s *db.Store, r api.Request, want api.Reply) {
	t.Helper()
	same(t, s, func() { answers(t, what, s, r, want) })
}

// denied tells that a request has an error, nothing beside it, and changes nothing.
func denied(t *testing.T, what string, s *db.Store, r api.Request, e api.Errno) {
	t.Helper()
	keeps(t, what, s, r, api.Reply{E: e})
}

// stock is a store with rows: b refers to a, c to a and b, d to none; d is a root.
type stock struct {
	s          *db.Store
	a, b, c, d api.Row
}

func newStock(t *testing.T) stock {
	t.Helper()
	k := stock{s: db.New()}
	k.a = rowOf("a", simple("1"))
	k.b = rowOf("b", simple("see "+k.a.Path), k.a.Path)
	k.c = rowOf("c", simple("3"), k.a.Path, k.b.Path)
	k.d = rowOf("d", of(dir("x y", file("12", 3), link("z"))).archive)
	if e := k.s.Put(k.all()); e != api.OK {
		t.Fatal(e)
	}
	if e := k.s.Root(k.d.Path); e != api.OK {
		t.Fatal(e)
	}
	return k
}

func (k stock) all() []api.Row { return []api.Row{k.a, k.b, k.c, k.d} }

// full answers a store of as many rows as there may be, and these.
func full(t *testing.T) (*db.Store, []api.Row) {
	t.Helper()
	s := db.New()
	var rows []api.Row
	for i := range api.MaxPaths {
		rows = append(rows, rowOf("n"+strconv.Itoa(i), simple(strconv.Itoa(i))))
		answers(t, "Add "+strconv.Itoa(i), s, add(rows[i].Name, rows[i].Archive), api.Reply{Paths: []string{rows[i].Path}})
	}
	has(t, s, nil, rows...)
	return s, rows
}

func paths(rows ...api.Row) []string {
	var l []string
	for _, row := range rows {
		l = append(l, row.Path)
	}
	return l
}

func TestExample(t *testing.T) {
	s := db.New()
	for _, path := range append(noPaths(), "anything", zeros+"-a") {
		keeps(t, "Valid of "+path[:min(len(path), 40)], s, ask(api.Valid, path), api.Reply{})
	}
}

func TestAdd(t *testing.T) {
	s := db.New()
	a := rowOf("a", simple("1"))
	b := rowOf("b", simple("see "+a.Path), a.Path)
	bare := rowOf("b", b.Archive)
	answers(t, "Add", s, add("a", a.Archive), api.Reply{Paths: paths(a)})
	has(t, s, nil, a)
	answers(t, "Add with a ref that it names, one that it doesn't, and one that is no path", s, add("b", b.Archive, zeros+"-none", a.Path, "none", a.Path), api.Reply{Paths: paths(b)})
	has(t, s, nil, a, b)
	if s.Version() != 2 {
		t.Error(s.Version())
	}
	keeps(t, "Add again", s, add("a", a.Archive), api.Reply{Paths: paths(a)})
	keeps(t, "Add again", s, add("b", b.Archive, a.Path), api.Reply{Paths: paths(b)})
	answers(t, "Add of the same bytes without refs", s, add("b", b.Archive), api.Reply{Paths: paths(bare)})
	other := rowOf("other", a.Archive)
	answers(t, "Add of another name", s, add("other", a.Archive, b.Path), api.Reply{Paths: paths(other)})
	has(t, s, nil, a, b, bare, other)
}

func TestAddErrors(t *testing.T) {
	lost := zeros + "-lost"
	names := simple(lost)
	for _, s := range []*db.Store{db.New(), newStock(t).s} {
		for _, c := range noArchives() {
			denied(t, "no archive", s, add(".", c.archive, lost), api.ErrForm)
		}
		for _, name := range noNames {
			denied(t, "no name", s, add(name, names, lost), api.ErrName)
		}
		denied(t, "a ref that isn't there", s, add("a", names, lost), api.ErrRefs)
		denied(t, "a ref that isn't there, and others", s, add("a", names, append(s.Paths(), lost)...), api.ErrRefs)
	}
	s, rows := full(t)
	denied(t, "one more", s, add("more", simple("more")), api.ErrLarge)
	denied(t, "no archive at a full store", s, add(".", nil), api.ErrForm)
	denied(t, "no name at a full store", s, add(".", names, lost), api.ErrName)
	denied(t, "no ref at a full store", s, add("a", names, lost), api.ErrRefs)
	keeps(t, "one of them", s, add(rows[5].Name, rows[5].Archive), api.Reply{Paths: paths(rows[5])})
}

func TestRegister(t *testing.T) {
	s := db.New()
	a := rowOf("a", simple("1"))
	b := rowOf("b", simple("2"), a.Path)
	c := rowOf("c", simple("3"), a.Path, b.Path)
	d := rowOf("d", simple("3"), c.Path)
	outs := []api.Out{{Name: "a", Archive: a.Archive}, {Name: "b", Archive: b.Archive, Needs: []int{0}}, {Name: "c", Archive: c.Archive, Needs: []int{1, 0, 1}}}
	keeps(t, "no Outs", s, register(), api.Reply{})
	answers(t, "three", s, register(outs...), api.Reply{Paths: paths(a, b, c)})
	has(t, s, nil, a, b, c)
	if s.Version() != 1 {
		t.Error("Version", s.Version())
	}
	keeps(t, "three again", s, register(outs...), api.Reply{Paths: paths(a, b, c)})
	keeps(t, "two of them", s, register(outs[:2]...), api.Reply{Paths: paths(a, b)})
	keeps(t, "one of them twice, by its refs", s, register(api.Out{Name: "b", Archive: b.Archive, Refs: paths(a)}, api.Out{Name: "b", Archive: b.Archive, Refs: paths(a, a)}), api.Reply{Paths: paths(b, b)})
	more := append(slices.Clone(outs), api.Out{Name: "d", Archive: d.Archive, Needs: []int{2}})
	answers(t, "one more behind them", s, register(more...), api.Reply{Paths: paths(a, b, c, d)})
	has(t, s, nil, a, b, c, d)
	falling := rowOf("z", simple("4"))
	answers(t, "in their order, not rising", s, register(api.Out{Name: "z", Archive: falling.Archive}, outs[0], api.Out{Name: "d", Archive: d.Archive, Refs: paths(c)}), api.Reply{Paths: paths(falling, a, d)})
	has(t, s, nil, a, b, c, d, falling)
}

// TestRegisterAllOrNothing lays each fault at each place of Outs that would do.
func TestRegisterAllOrNothing(t *testing.T) {
	for place := range 4 {
		for _, f := range faults() {
			for _, s := range []*db.Store{db.New(), newStock(t).s} {
				var outs []api.Out
				for i := range 4 {
					outs = append(outs, api.Out{Name: "o" + strconv.Itoa(i), Archive: simple("o"), Refs: s.Paths(), Needs: []int{0, i - 1}})
				}
				outs[place] = f.out(outs[place])
				denied(t, "fault "+strconv.Itoa(int(f.e))+" at "+strconv.Itoa(place), s, register(outs...), f.e)
			}
		}
	}
}

// TestRegisterAsksWhatIsThere has refs to an Out ahead: it isn't there yet, when the rows are told.
func TestRegisterAsksWhatIsThere(t *testing.T) {
	s := db.New()
	a := rowOf("a", simple("1"))
	b := rowOf("b", simple("2"), a.Path)
	ahead := register(api.Out{Name: "a", Archive: a.Archive}, api.Out{Name: "b", Archive: b.Archive, Refs: paths(a)})
	denied(t, "a ref to an Out ahead", s, ahead, api.ErrRefs)
	answers(t, "Add of it", s, add("a", a.Archive), api.Reply{Paths: paths(a)})
	answers(t, "a ref to an Out that is there", s, ahead, api.Reply{Paths: paths(a, b)})
	has(t, s, nil, a, b)
}

func TestRegisterErrLarge(t *testing.T) {
	s, rows := full(t)
	more := []api.Out{{Name: "more", Archive: simple("1")}, {Name: "above", Archive: simple("2"), Needs: []int{0}}, {Name: "top", Archive: simple("3"), Needs: []int{1}}}
	old := api.Out{Name: rows[9].Name, Archive: rows[9].Archive}
	denied(t, "three more", s, register(more...), api.ErrLarge)
	denied(t, "one more behind one of them", s, register(old, more[0]), api.ErrLarge)
	keeps(t, "one of them", s, register(old, old), api.Reply{Paths: paths(rows[9], rows[9])})
	answers(t, "Delete", s, ask(api.Delete, rows[0].Path), api.Reply{})
	answers(t, "Delete", s, ask(api.Delete, rows[1].Path), api.Reply{})
	denied(t, "three more, two have room", s, register(more...), api.ErrLarge)
	denied(t, "a fault behind too many", s, register(more[0], more[1], more[2], api.Out{}), api.ErrForm)
	a := rowOf("more", simple("1"))
	b := rowOf("above", simple("2"), a.Path)
	answers(t, "two more, and one of them", s, register(more[0], more[1], old), api.Reply{Paths: paths(a, b, rows[9])})
	has(t, s, nil, append(slices.Clone(rows[2:]), a, b)...)
	var very []api.Out
	for i := range 300 {
		very = append(very, api.Out{Name: "v" + strconv.Itoa(i), Archive: simple("v")})
	}
	denied(t, "very many", db.New(), register(very...), api.ErrLarge)
}

// TestOfAPath holds all that is told of a path, at a store in which it is there, and at a new one.
func TestOfAPath(t *testing.T) {
	k := newStock(t)
	for _, c := range []struct {
		row                      api.Row
		refs, referrers, closure []api.Row
	}{
		{k.a, nil, []api.Row{k.b, k.c}, []api.Row{k.a}},
		{k.b, []api.Row{k.a}, []api.Row{k.c}, []api.Row{k.a, k.b}},
		{k.c, []api.Row{k.a, k.b}, nil, []api.Row{k.a, k.b, k.c}},
		{k.d, nil, nil, []api.Row{k.d}},
	} {
		sum := sha256.Sum256(c.row.Archive)
		n, stamp := len(c.row.Archive)-21, 0.0
		if c.row.Name == "d" {
			n, stamp = 2, 3
		}
		for kind, want := range map[byte]api.Reply{
			api.Valid:     {Is: true},
			api.Info:      {Sum: sum[:], N: n, Stamp: stamp},
			api.Refs:      {Paths: sorted(paths(c.refs...))},
			api.Referrers: {Paths: sorted(paths(c.referrers...))},
			api.Closure:   {Paths: sorted(paths(c.closure...))},
		} {
			what := strconv.Itoa(int(kind)) + " of " + c.row.Name
			keeps(t, what, k.s, ask(kind, c.row.Path), want)
			full := api.Request{Kind: kind, Path: c.row.Path, Name: ".", Archive: []byte("none"), Refs: []string{"none"}, Outs: make([]api.Out, 2)}
			keeps(t, what+" with the fields of others", k.s, full, want)
			if kind != api.Valid {
				denied(t, what+" at a new store", db.New(), ask(kind, c.row.Path), api.ErrNone)
			}
		}
	}
}

// TestOfPathsThatArentThere has texts near to paths, and paths that are gone.
func TestOfPathsThatArentThere(t *testing.T) {
	k := newStock(t)
	answers(t, "Delete", k.s, ask(api.Delete, k.c.Path), api.Reply{})
	strays := append(noPaths(), zeros+"-a", k.a.Path[:33]+"b", k.c.Path, k.a.Path+"x")
	for _, s := range []*db.Store{k.s, db.New()} {
		for _, path := range strays {
			keeps(t, "Valid", s, ask(api.Valid, path), api.Reply{})
			for _, kind := range []byte{api.Info, api.Refs, api.Referrers, api.Closure, api.Root, api.Unroot, api.Delete} {
				denied(t, strconv.Itoa(int(kind)), s, ask(kind, path), api.ErrNone)
			}
		}
	}
}

func TestInfo(t *testing.T) {
	nan := math.Float64frombits(0x7ff8000000000001)
	odd := math.Float64frombits(0xfff0000000000777)
	minus := math.Copysign(0, -1)
	low, high := math.Inf(-1), math.Inf(1)
	for i, c := range []struct {
		n     api.Node
		size  int
		stamp float64
	}{
		{file("", 0), 0, 0}, {file("abc", minus), 3, 0}, {file("a", -1.5), 1, -1.5}, {file("a", nan), 1, nan}, {file("a", odd), 1, nan},
		{file("a", high), 1, high}, {file("a", low), 1, low}, {file(strings.Repeat("x", 1024), math.MaxFloat64), 1024, math.MaxFloat64},
		{link("target"), 0, low}, {dir(""), 0, low}, {dir("a b", link("x"), dir("")), 0, low},
		{dir("a b", file("1", 2), file("22", 1)), 3, 2}, {dir("a b", file("1", 1), file("22", 2)), 3, 2},
		{dir("a b", file("1", high), file("2", odd)), 2, nan}, {dir("a b", file("1", odd), file("2", high)), 2, nan},
		{dir("a b", file("1", low), file("2", minus)), 2, 0}, {dir("a b", file("1", minus), file("2", -5e-324)), 2, 0},
		{dir("a b", file("1", minus), file("2", 5e-324)), 2, 5e-324}, {dir("a b", file("1", -3), file("2", -2)), 2, -2},
		{dir("a b c", file("1", 1), dir("x y", dir("z", file("333", 7)), link("22")), file("1", 6.5)), 5, 7},
	} {
		s := db.New()
		c2 := of(c.n)
		path := pathOf("a", c2.archive)
		sum := sha256.Sum256(c2.archive)
		answers(t, "Add "+strconv.Itoa(i), s, add("a", c2.archive), api.Reply{Paths: []string{path}})
		keeps(t, "Info "+strconv.Itoa(i), s, ask(api.Info, path), api.Reply{Sum: sum[:], N: c.size, Stamp: c.stamp})
	}
}

// TestInfoOfNoArchive has rows that no Add tells: nothing is in there.
func TestInfoOfNoArchive(t *testing.T) {
	for _, c := range noArchives() {
		s := db.New()
		row := rowOf("a", c.archive)
		if e := s.Put([]api.Row{row}); e != api.OK {
			t.Fatal(e)
		}
		sum := sha256.Sum256(c.archive)
		keeps(t, "Info", s, ask(api.Info, row.Path), api.Reply{Sum: sum[:], Stamp: math.Inf(-1)})
	}
}

func TestRootAndUnroot(t *testing.T) {
	k := newStock(t)
	denied(t, "Unroot of no root", k.s, ask(api.Unroot, k.a.Path), api.ErrNone)
	answers(t, "Root", k.s, ask(api.Root, k.b.Path), api.Reply{})
	has(t, k.s, paths(k.b, k.d), k.all()...)
	keeps(t, "Root again", k.s, ask(api.Root, k.b.Path), api.Reply{})
	answers(t, "Unroot", k.s, ask(api.Unroot, k.d.Path), api.Reply{})
	has(t, k.s, paths(k.b), k.all()...)
	denied(t, "Unroot again", k.s, ask(api.Unroot, k.d.Path), api.ErrNone)
}

func TestMostRoots(t *testing.T) {
	s, rows := full(t)
	for _, row := range rows[:16] {
		answers(t, "Root", s, ask(api.Root, row.Path), api.Reply{})
	}
	has(t, s, paths(rows[:16]...), rows...)
	denied(t, "one more", s, ask(api.Root, rows[16].Path), api.ErrLarge)
	denied(t, "one that isn't there", s, ask(api.Root, zeros+"-a"), api.ErrNone)
	keeps(t, "one of them", s, ask(api.Root, rows[15].Path), api.Reply{})
	answers(t, "Unroot", s, ask(api.Unroot, rows[3].Path), api.Reply{})
	answers(t, "one more", s, ask(api.Root, rows[16].Path), api.Reply{})
	has(t, s, paths(append(slices.Clone(rows[:3]), rows[4:17]...)...), rows...)
}

func TestDelete(t *testing.T) {
	k := newStock(t)
	for _, row := range []api.Row{k.a, k.b, k.d} {
		denied(t, "Delete of "+row.Name, k.s, ask(api.Delete, row.Path), api.ErrAlive)
	}
	answers(t, "Root", k.s, ask(api.Root, k.c.Path), api.Reply{})
	denied(t, "Delete of a root", k.s, ask(api.Delete, k.c.Path), api.ErrAlive)
	answers(t, "Unroot", k.s, ask(api.Unroot, k.c.Path), api.Reply{})
	answers(t, "Delete", k.s, ask(api.Delete, k.c.Path), api.Reply{})
	has(t, k.s, paths(k.d), k.a, k.b, k.d)
	answers(t, "Delete", k.s, ask(api.Delete, k.b.Path), api.Reply{})
	answers(t, "Delete", k.s, ask(api.Delete, k.a.Path), api.Reply{})
	has(t, k.s, paths(k.d), k.d)
}

func TestCollect(t *testing.T) {
	k := newStock(t)
	keeps(t, "Collect at a new store", db.New(), ask(api.Collect, ""), api.Reply{})
	answers(t, "Root", k.s, ask(api.Root, k.b.Path), api.Reply{})
	answers(t, "Collect of one", k.s, ask(api.Collect, k.b.Path), api.Reply{Paths: paths(k.c)})
	has(t, k.s, paths(k.b, k.d), k.a, k.b, k.d)
	keeps(t, "Collect again", k.s, ask(api.Collect, ""), api.Reply{})
	answers(t, "Unroot", k.s, ask(api.Unroot, k.b.Path), api.Reply{})
	answers(t, "Collect of two", k.s, ask(api.Collect, ""), api.Reply{Paths: sorted(paths(k.a, k.b))})
	has(t, k.s, paths(k.d), k.d)
	s, rows := full(t)
	answers(t, "Collect without roots", s, ask(api.Collect, ""), api.Reply{Paths: sorted(paths(rows...))})
	has(t, s, nil)
}

func TestVerify(t *testing.T) {
	keeps(t, "Verify at a new store", db.New(), ask(api.Verify, ""), api.Reply{Is: true})
	k := newStock(t)
	keeps(t, "Verify", k.s, ask(api.Verify, k.a.Path), api.Reply{Is: true, N: 4})
	answers(t, "Delete", k.s, ask(api.Delete, k.c.Path), api.Reply{})
	keeps(t, "Verify", k.s, ask(api.Verify, ""), api.Reply{Is: true, N: 3})
	s, _ := full(t)
	keeps(t, "Verify at a full store", s, ask(api.Verify, ""), api.Reply{Is: true, N: 64})
}

// busy are requests of a kind in which each field is told, and in which none is.
func busy(k stock, kind byte) []api.Request {
	outs := []api.Out{{Name: "o", Archive: k.a.Archive, Refs: paths(k.b)}}
	return []api.Request{{Kind: kind}, ask(kind, k.a.Path), {Kind: kind, Name: "x", Path: k.b.Path, Archive: k.b.Archive, Refs: paths(k.a), Outs: outs}}
}

func TestOtherKinds(t *testing.T) {
	k := newStock(t)
	for kind := range 256 {
		if 1 <= kind && kind <= 12 {
			continue
		}
		for _, r := range busy(k, byte(kind)) {
			denied(t, "kind "+strconv.Itoa(kind), k.s, r, api.ErrForm)
			denied(t, "kind "+strconv.Itoa(kind)+" at a new store", db.New(), r, api.ErrForm)
		}
	}
}

func TestNoStore(t *testing.T) {
	k := newStock(t)
	for kind := range 256 {
		for _, r := range busy(k, byte(kind)) {
			answers(t, "kind "+strconv.Itoa(kind)+" of a nil store", nil, r, api.Reply{E: api.ErrNone})
		}
	}
}

func TestWrites(t *testing.T) {
	k := newStock(t)
	for kind := range 256 {
		for _, r := range busy(k, byte(kind)) {
			if got := Writes(r); got != slices.Contains(writers, byte(kind)) {
				t.Errorf("Writes of kind %d: %t", kind, got)
			}
		}
	}
}

// TestDoSharesNothing writes over all that was handed in, and answered.
func TestDoSharesNothing(t *testing.T) {
	_, requests := sharers()
	for i, r := range requests {
		s := db.New()
		for j := range 3 {
			answers(t, "Add of what is referred to", s, add("k"+strconv.Itoa(j), simple(strconv.Itoa(j))), api.Reply{Paths: []string{pathOf("k"+strconv.Itoa(j), simple(strconv.Itoa(j)))}})
		}
		want, e := Rows(s.Has, copyRequest(r))
		handed := roomy(r)
		was := whole(handed)
		reply := Do(s, handed)
		if e != api.OK || whole(handed) != was || !slices.Equal(reply.Paths, paths(want...)) {
			t.Fatal(i, e, reply, "what was handed in is", handed)
		}
		same(t, s, func() {
			overwrite(handed)
			blank(reply.Sum, reply.Paths[:cap(reply.Paths)])
		})
		for _, row := range want {
			if got, _ := s.Get(row.Path); !sameRow(got, row) {
				t.Error(i, "a row has what was handed in, or answered:", got)
			}
		}
	}
}

func TestRepliesAreApart(t *testing.T) {
	k := newStock(t)
	for _, row := range k.all() {
		for _, kind := range readers {
			want, got := Do(k.s, ask(kind, row.Path)), Do(k.s, ask(kind, row.Path))
			same(t, k.s, func() { blank(got.Sum, got.Paths[:cap(got.Paths)]) })
			keeps(t, "kind "+strconv.Itoa(int(kind)), k.s, ask(kind, row.Path), want)
		}
	}
	before := k.s.Paths()
	gone := Do(k.s, ask(api.Collect, ""))
	same(t, k.s, func() { blank(gone.Sum, gone.Paths[:cap(gone.Paths)]) })
	if len(before) != 4 || len(k.s.Paths()) != 1 {
		t.Error(before, k.s.Paths())
	}
}

// way draws requests one behind the other, at a store in which some rows are, and holds each reply, and the store, against the slow telling.
func way(t *testing.T, draw *rand.Rand, kinds []byte, steps, first int, seen map[[2]int]int) {
	t.Helper()
	s, told := db.New(), newShelf(nil)
	p := &pool{draw: draw, known: told.known, names: 3}
	for i := range first {
		r := add("first"+strconv.Itoa(i), p.note(of(file("", 1))))
		p.paths = append(p.paths, Do(s, r).Paths...)
		told.tell(r)
	}
	for range steps {
		r := p.request(kinds[draw.Intn(len(kinds))])
		version, before := s.Version(), s.Paths()
		want := told.tell(copyRequest(r))
		got := Do(s, r)
		if !sameReply(got, want) {
			t.Fatalf("%v: %v, want %v", r, got, want)
		}
		if s.Version() != version && (got.E != api.OK || !Writes(r)) {
			t.Fatalf("%v: %v, but something has changed", r, got)
		}
		if !slices.Equal(s.Paths(), told.paths()) || !slices.Equal(s.Roots(), told.rootPaths()) || !s.Check() {
			t.Fatalf("%v: there are %v, roots %v, want %v, %v", r, s.Paths(), s.Roots(), told.paths(), told.rootPaths())
		}
		if s.Version() == version && !slices.Equal(s.Paths(), before) {
			t.Fatalf("%v: the Version stays", r)
		}
		if r.Kind == api.Add || r.Kind == api.Register {
			p.paths = sorted(append(p.paths, got.Paths...))
		}
		if r.Kind <= 12 {
			seen[[2]int{int(r.Kind), int(got.E)}]++
		}
	}
	for path, row := range told.rows {
		if got, there := s.Get(path); !there || !sameRow(got, row) {
			t.Fatalf("%s: %v, want %v", path, got, row)
		}
	}
}

func TestAnyWays(t *testing.T) {
	draw := rand.New(rand.NewSource(13))
	seen := map[[2]int]int{}
	kinds := slices.Concat(readers, writers, []byte{api.Add, api.Add, api.Register, api.Register, api.Root, 0, 13, 255})
	for range 150 {
		way(t, draw, kinds, 60, 0, seen)
	}
	filling := []byte{api.Add, api.Register, api.Register, api.Root, api.Root, api.Root, api.Root, api.Unroot, api.Delete, api.Closure, api.Info}
	for i := range 30 {
		way(t, draw, filling, 80, 50+i%12, seen)
	}
	for kind, errors := range map[int][]api.Errno{
		api.Add: {api.ErrForm, api.ErrName, api.ErrRefs, api.ErrLarge}, api.Register: {api.ErrForm, api.ErrName, api.ErrRefs, api.ErrLarge},
		api.Info: {api.ErrNone}, api.Refs: {api.ErrNone}, api.Referrers: {api.ErrNone}, api.Closure: {api.ErrNone},
		api.Root: {api.ErrNone, api.ErrLarge}, api.Unroot: {api.ErrNone}, api.Delete: {api.ErrNone, api.ErrAlive}, api.Valid: nil, api.Collect: nil, api.Verify: nil,
	} {
		for _, e := range append(errors, api.OK) {
			if seen[[2]int{kind, int(e)}] < 20 {
				t.Errorf("kind %d is answered %d %d times", kind, e, seen[[2]int{kind, int(e)}])
			}
		}
	}
}
