package db

import (
	"math/rand"
	"reflect"
	"slices"
	"strconv"
	"strings"
	"testing"

	"godown/api"
)

// TestCheckSeesEachFault breaks one thing at a time, as no call does.
func TestCheckSeesEachFault(t *testing.T) {
	k := newStock(t)
	for what, breaking := range map[string]func(s *Store){
		"a row of another archive": func(s *Store) {
			s.table.Set(k.g.Path, api.Row{Path: k.g.Path, Name: "g", Archive: []byte("8"), Refs: k.g.Refs})
		},
		"a row of another name": func(s *Store) {
			s.table.Set(k.g.Path, api.Row{Path: k.g.Path, Name: "h", Archive: k.g.Archive, Refs: k.g.Refs})
		},
		"a row under another path":    func(s *Store) { s.table.Set(k.g.Path, k.f) },
		"a row under no path":         func(s *Store) { s.table.Set("none", k.a) },
		"an empty row":                func(s *Store) { s.table.Set(k.f.Path, api.Row{}) },
		"a ref that isn't there":      func(s *Store) { s.table.Drop(k.a.Path) },
		"a root that isn't there":     func(s *Store) { s.roots.add(zeros + "-none") },
		"a root that is gone":         func(s *Store) { s.leave([]string{k.e.Path}) },
		"a referrer that isn't known": func(s *Store) { s.unlink(k.d.Path, k.f.Path) },
		"one of two that isn't known": func(s *Store) { delete(s.referrers[k.b.Path], k.c.Path) },
		"no referrers at all":         func(s *Store) { s.referrers = map[string]set{} },
		"a referrer too many":         func(s *Store) { s.link(k.a.Path, k.d.Path) },
		"one that isn't there":        func(s *Store) { s.link(k.a.Path, zeros+"-none") },
		"one of what isn't there":     func(s *Store) { s.link(zeros+"-none", k.a.Path) },
		"one that refers to itself":   func(s *Store) { s.link(k.a.Path, k.a.Path) },
		"one whose row went":          func(s *Store) { s.table.Drop(k.f.Path) },
		"a row that refers to itself": func(s *Store) { selfish(s) },
	} {
		s := filled(t, k.all()...)
		answered(t, "Root", s.Root(k.e.Path), api.OK)
		if !s.Check() {
			t.Fatal("Check isn't so")
		}
		breaking(s)
		if s.Check() {
			t.Errorf("Check doesn't see %s", what)
		}
	}
}

func TestCheckChangesNothing(t *testing.T) {
	k := newStock(t)
	s := filled(t, k.all()...)
	unchanged(t, s, pathsOf(k.all()), func() {
		for range 3 {
			if !s.Check() {
				t.Error("Check isn't so")
			}
		}
	})
}

// same asks Same both ways round.
func same(t *testing.T, what string, a, b *Store, want bool) {
	t.Helper()
	if Same(a, b) != want || Same(b, a) != want {
		t.Errorf("%s: %t and %t, want %t", what, Same(a, b), Same(b, a), want)
	}
	if !Same(a, a) || !Same(b, b) {
		t.Errorf("%s: one isn't the Same as itself", what)
	}
}

func TestSame(t *testing.T) {
	k := newStock(t)
	s := filled(t, k.all()...)
	o := New()
	same(t, "of none and some", s, o, false)
	for i, l := range [][]api.Row{{k.d, k.f}, {k.a}, {k.b, k.g}, {k.c}} {
		put(t, o, api.OK, l...)
		same(t, "of less and more "+strconv.Itoa(i), s, o, false)
	}
	put(t, o, api.OK, k.e)
	same(t, "of rows in another order", s, o, true)
	if s.Version() == o.Version() || s.Stamp(k.d.Path) == o.Stamp(k.d.Path) {
		t.Error("what was done isn't another")
	}
	answered(t, "Root", s.Root(k.c.Path), api.OK)
	same(t, "of a root and none", s, o, false)
	answered(t, "Root", o.Root(k.e.Path), api.OK)
	same(t, "of one root and another", s, o, false)
	answered(t, "Root", o.Root(k.c.Path), api.OK)
	same(t, "of one root and two", s, o, false)
	answered(t, "Root", s.Root(k.e.Path), api.OK)
	same(t, "of roots in another order", s, o, true)
	answered(t, "Delete", o.Delete(k.g.Path), api.OK)
	same(t, "of a row less", s, o, false)
	put(t, o, api.OK, row(t, "other", "7", k.b.Path, k.d.Path))
	same(t, "of as many rows, but others", s, o, false)
	s.Sweep()
	o.Sweep()
	same(t, "of what is left", s, o, true)
	for _, r := range []api.Row{k.c, k.e} {
		answered(t, "Unroot", s.Unroot(r.Path), api.OK)
	}
	s.Sweep()
	same(t, "of an empty one and a new one", s, New(), true)
	same(t, "of an empty one and nil", s, nil, true)
}

// TestSameOfEachField lays rows of one path that no Put would take.
func TestSameOfEachField(t *testing.T) {
	k := newStock(t)
	for i, change := range []func(r *api.Row){
		func(r *api.Row) {},
		func(r *api.Row) { r.Path = k.b.Path },
		func(r *api.Row) { r.Name = "x" },
		func(r *api.Row) { r.Archive = []byte("x") },
		func(r *api.Row) { r.Refs = r.Refs[:1] },
	} {
		s, o := filled(t, k.all()...), filled(t, k.all()...)
		r := copyOf(k.c)
		change(&r)
		o.table.Set(k.c.Path, r)
		same(t, "of a change", s, o, i == 0)
	}
}

func TestSameOfNilAndNew(t *testing.T) {
	k := newStock(t)
	same(t, "of new ones", New(), New(), true)
	same(t, "of nil and new", nil, New(), true)
	same(t, "of nil and nil", nil, nil, true)
	same(t, "of nil and one with a row", nil, filled(t, k.a), false)
	same(t, "of new and one with a row", New(), filled(t, k.a), false)
}

func TestNilStore(t *testing.T) {
	k := newStock(t)
	var s *Store
	for range 2 {
		paths := append(pathsOf(k.all()), strays(k)...)
		if is, want := tell(t, s, paths...), tell(t, New(), paths...); !reflect.DeepEqual(is, want) {
			t.Errorf("nil tells %v, a new one %v", is, want)
		}
		nothingThere(t, s, paths...)
		for _, l := range [][]api.Row{nil, {}, {k.a}, k.all(), {{}}, {k.b}, make([]api.Row, 100)} {
			put(t, s, api.ErrNone, l...)
		}
		for _, path := range paths {
			answered(t, "Root", s.Root(path), api.ErrNone)
			answered(t, "Unroot", s.Unroot(path), api.ErrNone)
			answered(t, "Delete", s.Delete(path), api.ErrNone)
			if s.Stamp(path) != 0 {
				t.Error(s.Stamp(path))
			}
		}
		are(t, "Sweep", s.Sweep())
		if s.Version() != 0 || !s.Check() || !Same(s, New()) {
			t.Error(s.Version(), s.Check())
		}
	}
}

// slow is a store told once more: by all that changed it, from the first thing on. Each answer goes through all of that.
type slow []deed

// deed is a call that changed something: rows that came or went, a path that became a root, or one that is none any more.
type deed struct {
	came, went       []api.Row
	rooted, unrooted string
}

// rows are those that are there, in the order of their coming.
func (w slow) rows() []api.Row {
	var l []api.Row
	for _, d := range w {
		l = append(l, d.came...)
		if went := pathsOf(d.went); len(went) > 0 {
			l = slices.DeleteFunc(l, func(r api.Row) bool { return slices.Contains(went, r.Path) })
		}
	}
	return l
}

func (w slow) row(path string) (api.Row, bool) {
	for _, r := range w.rows() {
		if r.Path == path {
			return r, true
		}
	}
	return api.Row{}, false
}

func (w slow) has(path string) bool {
	_, there := w.row(path)
	return there
}

func (w slow) roots() []string {
	var l []string
	for _, d := range w {
		if d.rooted != "" {
			l = append(l, d.rooted)
		}
		l = slices.DeleteFunc(l, func(path string) bool { return path == d.unrooted })
	}
	slices.Sort(l)
	return l
}

func (w slow) referrers(path string) []string {
	var l []string
	for _, r := range w.rows() {
		if slices.Contains(r.Refs, path) {
			l = append(l, r.Path)
		}
	}
	slices.Sort(l)
	return l
}

// comesTo adds what is referred to till there is no more of it.
func (w slow) comesTo(from []string) []string {
	rows := w.rows()
	var l []string
	for _, path := range from {
		if slices.Contains(pathsOf(rows), path) {
			l = append(l, path)
		}
	}
	for more := true; more; {
		more = false
		for _, r := range rows {
			for _, ref := range r.Refs {
				if slices.Contains(l, r.Path) && !slices.Contains(l, ref) {
					l, more = append(l, ref), true
				}
			}
		}
	}
	slices.Sort(l)
	return slices.Compact(l)
}

func (w slow) stamp(path string) uint64 {
	stamp := 0
	for i, d := range w {
		touched := d.rooted == path || d.unrooted == path
		for _, r := range slices.Concat(d.came, d.went) {
			touched = touched || r.Path == path || slices.Contains(r.Refs, path)
		}
		if touched && path != "" {
			stamp = i + 1
		}
	}
	return uint64(stamp)
}

// put answers the error, and what is told behind it.
func (w slow) put(t *testing.T, l []api.Row) (slow, api.Errno) {
	var came []api.Row
	for _, r := range l {
		if !reflect.DeepEqual(r, row(t, r.Name, string(r.Archive), r.Refs...)) {
			return w, api.ErrName
		}
		there := union(w.rows(), came)
		if slices.Contains(pathsOf(there), r.Path) {
			continue
		}
		for _, ref := range r.Refs {
			if !slices.Contains(pathsOf(there), ref) {
				return w, api.ErrRefs
			}
		}
		if len(there) == api.MaxPaths {
			return w, api.ErrLarge
		}
		came = append(came, r)
	}
	if len(came) == 0 {
		return w, api.OK
	}
	return append(w, deed{came: came}), api.OK
}

func (w slow) root(path string) (slow, api.Errno) {
	switch {
	case !w.has(path):
		return w, api.ErrNone
	case slices.Contains(w.roots(), path):
		return w, api.OK
	case len(w.roots()) == api.MaxRoots:
		return w, api.ErrLarge
	}
	return append(w, deed{rooted: path}), api.OK
}

func (w slow) unroot(path string) (slow, api.Errno) {
	if !slices.Contains(w.roots(), path) {
		return w, api.ErrNone
	}
	return append(w, deed{unrooted: path}), api.OK
}

func (w slow) remove(path string) (slow, api.Errno) {
	r, there := w.row(path)
	if !there {
		return w, api.ErrNone
	}
	if slices.Contains(w.roots(), path) || len(w.referrers(path)) > 0 {
		return w, api.ErrAlive
	}
	return append(w, deed{went: []api.Row{r}}), api.OK
}

func (w slow) sweep() (slow, []string) {
	live := w.comesTo(w.roots())
	var went []api.Row
	for _, r := range w.rows() {
		if !slices.Contains(live, r.Path) {
			went = append(went, r)
		}
	}
	if len(went) == 0 {
		return w, nil
	}
	return append(w, deed{went: went}), slices.Sorted(slices.Values(pathsOf(went)))
}

func (w slow) tell(paths []string) telling {
	var there []string
	for _, r := range w.rows() {
		there = append(there, r.Path)
	}
	slices.Sort(there)
	all := telling{list(there), list(w.roots()), list(w.comesTo(w.roots())), uint64(len(w)), map[string]ofPath{}}
	for _, path := range paths {
		r, is := w.row(path)
		r.Archive, r.Refs = append([]byte{}, r.Archive...), list(r.Refs)
		all.Of[path] = ofPath{is, r, r.Refs, list(w.referrers(path)), list(w.comesTo([]string{path})), w.stamp(path)}
	}
	return all
}

// built answers a new store with the rows and roots of the slow telling.
func (w slow) built(t *testing.T) *Store {
	t.Helper()
	s := filled(t, w.rows()...)
	for _, path := range w.roots() {
		answered(t, "Root of a built one", s.Root(path), api.OK)
	}
	return s
}

// thing is something that is done to a store: its letter says what.
type thing struct {
	what byte
	rows []api.Row
}

// do does a thing to both, and holds the answers against one another.
func (x thing) do(t *testing.T, s *Store, w slow) slow {
	t.Helper()
	var want, got api.Errno
	switch x.what {
	case 'p':
		w, want = w.put(t, x.rows)
		got = s.Put(x.rows)
	case 'r':
		w, want = w.root(x.rows[0].Path)
		got = s.Root(x.rows[0].Path)
	case 'u':
		w, want = w.unroot(x.rows[0].Path)
		got = s.Unroot(x.rows[0].Path)
	case 'd':
		w, want = w.remove(x.rows[0].Path)
		got = s.Delete(x.rows[0].Path)
	case 's':
		var gone []string
		w, gone = w.sweep()
		if swept := s.Sweep(); !slices.Equal(swept, gone) {
			t.Errorf("Sweep: %q, want %q", swept, gone)
		}
	}
	if got != want {
		t.Errorf("%c: %d, want %d", x.what, got, want)
	}
	return w
}

func alike(t *testing.T, s *Store, w slow, paths []string) {
	t.Helper()
	if is, want := tell(t, s, paths...), w.tell(paths); !reflect.DeepEqual(is, want) {
		t.Errorf("told %v, want %v", is, want)
	}
	if s.table.Mark() != 0 {
		t.Error("in the journal:", s.table.Mark())
	}
}

// TestAllShortWays goes through every row of four things done to rows that refer to one another.
func TestAllShortWays(t *testing.T) {
	k := newStock(t)
	paths := []string{k.a.Path, k.b.Path, k.c.Path}
	bad := k.c
	bad.Name = "bad"
	one := func(what byte, l ...api.Row) thing { return thing{what, l} }
	things := []thing{one('p', k.a), one('p', k.b), one('p', k.a, k.b), one('p', k.b, k.c), one('p', k.a, k.b, bad), one('r', k.a), one('r', k.b),
		one('u', k.a), one('u', k.b), one('d', k.a), one('d', k.b), one('s')}
	const long = 4
	all := 1
	for range long {
		all *= len(things)
	}
	for way := 0; way < all && !t.Failed(); way++ {
		s := New()
		var w slow
		rest := way
		for range long {
			w = things[rest%len(things)].do(t, s, w)
			rest /= len(things)
		}
		alike(t, s, w, paths)
		if t.Failed() {
			t.Logf("way %d", way)
		}
	}
}

// TestLongWays draws what is done among rows that refer to one another in many ways, more of them than there may be. Behind each thing it looks at the store and at some paths, behind every tenth at all.
func TestLongWays(t *testing.T) {
	for seed := range int64(12) {
		draw := rand.New(rand.NewSource(seed))
		var l []api.Row
		for range api.MaxPaths + 6 {
			var refs []string
			for _, i := range draw.Perm(len(l))[:min(len(l), draw.Intn(4))] {
				refs = append(refs, l[i].Path)
			}
			l = append(l, row(t, "r", strings.Repeat("x", len(l)), refs...))
		}
		paths := append(pathsOf(l), "", "none", zeros+"-none")
		s := New()
		var w slow
		for i := range 150 {
			w = drawn(draw, l, i).do(t, s, w)
			start := draw.Intn(len(paths))
			if i%10 == 9 {
				alike(t, s, w, paths)
			}
			alike(t, s, w, paths[start:min(len(paths), start+6)])
			if t.Failed() {
				t.Fatalf("seed %d, thing %d", seed, i)
			}
		}
		same(t, "of what was built", s, w.built(t), true)
	}
}

// drawn answers a thing to be done; a Put is, at times, of a row that isn't so, or of rows whose refs aren't there.
func drawn(draw *rand.Rand, l []api.Row, i int) thing {
	const often = "ppppppprrruddddddds"
	what := often[draw.Intn(len(often))]
	if i%50 == 5 {
		return thing{'p', l}
	}
	if i%50 == 6 {
		return thing{'p', l[:api.MaxPaths]}
	}
	if what == 's' && draw.Intn(3) > 0 {
		what = 'p'
	}
	rows := []api.Row{l[draw.Intn(len(l))]}
	if what == 'p' {
		start := draw.Intn(len(l))
		rows = slices.Clone(l[start:min(len(l), start+draw.Intn(12))])
		if draw.Intn(6) == 0 && len(rows) > 0 {
			rows[draw.Intn(len(rows))].Archive = []byte("bad")
		}
	}
	return thing{what, rows}
}
