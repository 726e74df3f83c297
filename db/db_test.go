package db

import (
	"math/rand"
	"reflect"
	"slices"
	"strconv"
	"strings"
	"testing"

	"godown/api"
	"godown/name"
)

const zeros = "00000000000000000000000000000000"

// row answers one whose path is its own.
func row(t *testing.T, title, archive string, refs ...string) api.Row {
	t.Helper()
	refs = slices.Sorted(slices.Values(refs))
	path, e := name.Make(title, []byte(archive), refs)
	if e != api.OK {
		t.Fatalf("Make(%q, %q, %q): %d", title, archive, refs, e)
	}
	return api.Row{Path: path, Name: title, Archive: []byte(archive), Refs: refs}
}

// many answers rows that refer to none.
func many(t *testing.T, n int) []api.Row {
	t.Helper()
	var l []api.Row
	for i := range n {
		l = append(l, row(t, "n"+strconv.Itoa(i), strconv.Itoa(i)))
	}
	return l
}

// stock is rows that refer to one another: a and d to none, b to a, c to a and b, e to c and d, f to d, g to b and d.
type stock struct{ a, b, c, d, e, f, g api.Row }

func newStock(t *testing.T) stock {
	t.Helper()
	var k stock
	k.a = row(t, "a", "1")
	k.b = row(t, "b", "2", k.a.Path)
	k.c = row(t, "c", "3", k.a.Path, k.b.Path)
	k.d = row(t, "d", "")
	k.e = row(t, "e", "5", k.c.Path, k.d.Path)
	k.f = row(t, "f", "6", k.d.Path)
	k.g = row(t, "g", "7", k.b.Path, k.d.Path)
	return k
}

func (k stock) all() []api.Row { return []api.Row{k.a, k.b, k.c, k.d, k.e, k.f, k.g} }

// strays are texts of which no row is there.
func strays(k stock) []string {
	return []string{"", "a", "none", "\x00", "\xff", k.a.Path[:name.Digits], k.a.Path[:name.Digits+1], k.a.Path + "x", " " + k.a.Path,
		strings.ToUpper(k.a.Path), zeros + "-a", zeros + "-zz", strings.Repeat("a", 1<<16)}
}

func pathsOf(l []api.Row) []string {
	var paths []string
	for _, r := range l {
		paths = append(paths, r.Path)
	}
	return paths
}

func filled(t *testing.T, l ...api.Row) *Store {
	t.Helper()
	s := New()
	put(t, s, api.OK, l...)
	return s
}

func put(t *testing.T, s *Store, want api.Errno, l ...api.Row) {
	t.Helper()
	if e := s.Put(l); e != want {
		t.Errorf("Put of %d rows: %d, want %d", len(l), e, want)
	}
}

// answered holds one error against the one that is wanted.
func answered(t *testing.T, what string, got, want api.Errno) {
	t.Helper()
	if got != want {
		t.Errorf("%s: %d, want %d", what, got, want)
	}
}

// are tells that a list has just the paths of these rows, rising.
func are(t *testing.T, what string, got []string, want ...api.Row) {
	t.Helper()
	if l := slices.Sorted(slices.Values(pathsOf(want))); !slices.Equal(got, l) {
		t.Errorf("%s: %q, want %q", what, got, l)
	}
}

// ofPath is all that a store tells of a path.
type ofPath struct {
	Has                      bool
	Row                      api.Row
	Refs, Referrers, Closure []string
	Stamp                    uint64
}

// telling is all that a store tells: of itself, and of some paths.
type telling struct {
	Paths, Roots, Live []string
	Version            uint64
	Of                 map[string]ofPath
}

// list answers a copy, in which nothing is nil, however it is told.
func list(l []string) []string { return append([]string{}, l...) }

func tell(t *testing.T, s *Store, paths ...string) telling {
	t.Helper()
	all := telling{list(s.Paths()), list(s.Roots()), list(s.Live()), s.Version(), map[string]ofPath{}}
	for _, path := range paths {
		r, there := s.Get(path)
		if there != s.Has(path) {
			t.Errorf("Get and Has of %q: %t and %t", path, there, s.Has(path))
		}
		r.Archive = append([]byte{}, r.Archive...)
		r.Refs = list(r.Refs)
		all.Of[path] = ofPath{there, r, list(s.Refs(path)), list(s.Referrers(path)), list(s.Closure(path)), s.Stamp(path)}
	}
	if !s.Check() {
		t.Error("Check isn't so")
	}
	return all
}

// unchanged tells that something changes nothing of what a store tells of these paths, nor what it keeps.
func unchanged(t *testing.T, s *Store, paths []string, what func()) {
	t.Helper()
	was, stamps, referrers := tell(t, s, paths...), len(s.stamps), len(s.referrers)
	what()
	if is := tell(t, s, paths...); !reflect.DeepEqual(is, was) {
		t.Errorf("changed: %v, was %v", is, was)
	}
	if len(s.stamps) != stamps || len(s.referrers) != referrers || s.table.Mark() != 0 {
		t.Errorf("%d stamps, %d that are referred to, %d in the journal; were %d, %d, 0", len(s.stamps), len(s.referrers), s.table.Mark(), stamps, referrers)
	}
}

// selfish lays a row into a store that refers to itself. No path is known that is made of itself, so Put takes none: it comes as rows do that Put has taken.
func selfish(s *Store, refs ...string) api.Row {
	path := zeros + "-self"
	r := api.Row{Path: path, Name: "self", Archive: []byte("self"), Refs: slices.Sorted(slices.Values(append(refs, path)))}
	s.table.Set(path, r)
	s.table.Done()
	s.arrive([]api.Row{r})
	return r
}

// nothingThere tells that no row and no root is there, whatever stamps there are.
func nothingThere(t *testing.T, s *Store, paths ...string) {
	t.Helper()
	are(t, "Paths", s.Paths())
	are(t, "Roots", s.Roots())
	are(t, "Live", s.Live())
	for _, path := range paths {
		if r, there := s.Get(path); !reflect.DeepEqual(r, api.Row{}) || there || s.Has(path) {
			t.Errorf("Get(%q): %v, %t", path, r, there)
		}
		are(t, "Refs", s.Refs(path))
		are(t, "Referrers", s.Referrers(path))
		are(t, "Closure", s.Closure(path))
	}
	if !s.Check() {
		t.Error("Check isn't so")
	}
}

func TestNew(t *testing.T) {
	k := newStock(t)
	s := New()
	nothingThere(t, s, append(strays(k), pathsOf(k.all())...)...)
	if s.Version() != 0 || s.Stamp(k.a.Path) != 0 || s.Stamp("") != 0 {
		t.Error(s.Version(), s.Stamp(k.a.Path))
	}
	answered(t, "Delete of anything", s.Delete("anything"), api.ErrNone)
	if s.Version() != 0 {
		t.Error(s.Version())
	}
}

func TestStoresAreApart(t *testing.T) {
	k := newStock(t)
	s, o := filled(t, k.a), filled(t, k.d)
	answered(t, "Root", s.Root(k.a.Path), api.OK)
	answered(t, "Delete", o.Delete(k.d.Path), api.OK)
	are(t, "Paths", s.Paths(), k.a)
	are(t, "Roots", s.Roots(), k.a)
	nothingThere(t, o, k.a.Path, k.d.Path)
	nothingThere(t, New(), k.a.Path, k.d.Path)
}

func TestRowsThatAreThere(t *testing.T) {
	k := newStock(t)
	s := New()
	for i, r := range k.all() {
		put(t, s, api.OK, r)
		are(t, "Paths", s.Paths(), k.all()[:i+1]...)
		for j, q := range k.all() {
			got, there := s.Get(q.Path)
			if there != (j <= i) || s.Has(q.Path) != there {
				t.Errorf("%s behind %s: %t", q.Name, r.Name, there)
			}
			if there && !sameRow(got, q) {
				t.Errorf("Get(%s): %v", q.Name, got)
			}
			if !there && !reflect.DeepEqual(got, api.Row{}) {
				t.Errorf("Get(%s) has something: %v", q.Name, got)
			}
		}
	}
	for _, path := range strays(k) {
		if r, there := s.Get(path); !reflect.DeepEqual(r, api.Row{}) || there || s.Has(path) {
			t.Errorf("Get(%q): %v", path, r)
		}
		are(t, "Refs of a stray", s.Refs(path))
		are(t, "Referrers of a stray", s.Referrers(path))
		are(t, "Closure of a stray", s.Closure(path))
	}
}

// TestGetOfEachField holds what Get answers against what was put, field by field.
func TestGetOfEachField(t *testing.T) {
	k := newStock(t)
	long := row(t, strings.Repeat("l", api.MaxName), strings.Repeat("\x00\xff", 1<<16), pathsOf(k.all())...)
	s := filled(t, append(k.all(), long)...)
	got, there := s.Get(long.Path)
	if !there || got.Path != long.Path || got.Name != long.Name || string(got.Archive) != string(long.Archive) || !slices.Equal(got.Refs, long.Refs) {
		t.Error(got.Path, got.Name, len(got.Archive), got.Refs, there)
	}
	if got, there = s.Get(k.d.Path); !there || got.Path != k.d.Path || got.Name != "d" || len(got.Archive) != 0 || len(got.Refs) != 0 {
		t.Error(got, there)
	}
}

func TestRefsAndReferrers(t *testing.T) {
	k := newStock(t)
	s := filled(t, k.all()...)
	are(t, "Refs of a", s.Refs(k.a.Path))
	are(t, "Refs of b", s.Refs(k.b.Path), k.a)
	are(t, "Refs of c", s.Refs(k.c.Path), k.a, k.b)
	are(t, "Refs of e", s.Refs(k.e.Path), k.c, k.d)
	are(t, "Referrers of a", s.Referrers(k.a.Path), k.b, k.c)
	are(t, "Referrers of b", s.Referrers(k.b.Path), k.c, k.g)
	are(t, "Referrers of c", s.Referrers(k.c.Path), k.e)
	are(t, "Referrers of d", s.Referrers(k.d.Path), k.e, k.f, k.g)
	are(t, "Referrers of e", s.Referrers(k.e.Path))
	are(t, "Referrers of f", s.Referrers(k.f.Path))
	answered(t, "Delete", s.Delete(k.e.Path), api.OK)
	are(t, "Refs of e that is gone", s.Refs(k.e.Path))
	are(t, "Referrers of c", s.Referrers(k.c.Path))
	are(t, "Referrers of d", s.Referrers(k.d.Path), k.f, k.g)
}

func TestRowThatRefersToItself(t *testing.T) {
	k := newStock(t)
	s := filled(t, k.a, k.b)
	self := selfish(s, k.b.Path)
	are(t, "Refs", s.Refs(self.Path), self, k.b)
	are(t, "Referrers", s.Referrers(self.Path), self)
	are(t, "Referrers of b", s.Referrers(k.b.Path), self)
	are(t, "Closure", s.Closure(self.Path), self, k.b, k.a)
	are(t, "Live", s.Live())
	answered(t, "Root", s.Root(self.Path), api.OK)
	are(t, "Live", s.Live(), self, k.b, k.a)
	answered(t, "Delete of a root", s.Delete(self.Path), api.ErrAlive)
	answered(t, "Unroot", s.Unroot(self.Path), api.OK)
	answered(t, "Delete", s.Delete(self.Path), api.OK)
	are(t, "Referrers of what is gone", s.Referrers(self.Path))
	are(t, "Referrers of b", s.Referrers(k.b.Path))
	are(t, "Paths", s.Paths(), k.a, k.b)
	// It came with 2, was a root with 3, none with 4, and went with 5.
	if s.Stamp(self.Path) != 5 || s.Stamp(k.b.Path) != 5 || s.Version() != 5 {
		t.Error(s.Stamp(self.Path), s.Stamp(k.b.Path), s.Version())
	}
	if !s.Check() {
		t.Error("Check isn't so")
	}
}

// TestSelfishRowThatAnotherNeeds has a row that refers to itself, and one more that refers to it.
func TestSelfishRowThatAnotherNeeds(t *testing.T) {
	s := New()
	self := selfish(s)
	r := row(t, "r", "r", self.Path)
	put(t, s, api.OK, r)
	are(t, "Referrers", s.Referrers(self.Path), self, r)
	answered(t, "Delete", s.Delete(self.Path), api.ErrAlive)
	answered(t, "Delete of the other one", s.Delete(r.Path), api.OK)
	are(t, "Referrers", s.Referrers(self.Path), self)
	are(t, "Sweep", s.Sweep(), self)
	nothingThere(t, s, self.Path, r.Path)
}

func TestClosure(t *testing.T) {
	k := newStock(t)
	s := filled(t, k.all()...)
	are(t, "of one without refs", s.Closure(k.a.Path), k.a)
	are(t, "of one with one", s.Closure(k.b.Path), k.a, k.b)
	are(t, "of rows that share", s.Closure(k.c.Path), k.a, k.b, k.c)
	are(t, "of a row of rows", s.Closure(k.e.Path), k.a, k.b, k.c, k.d, k.e)
	are(t, "of f", s.Closure(k.f.Path), k.d, k.f)
	are(t, "of g", s.Closure(k.g.Path), k.a, k.b, k.d, k.g)
	are(t, "of one that isn't there", s.Closure(zeros+"-a"))
	are(t, "of none", s.Closure(""))
	answered(t, "Delete", s.Delete(k.e.Path), api.OK)
	are(t, "of one that is gone", s.Closure(k.e.Path))
	put(t, s, api.OK, k.e)
	are(t, "of one that came again", s.Closure(k.e.Path), k.a, k.b, k.c, k.d, k.e)
}

// tower answers rows of which each refers to the two below it: there are very many ways down.
func tower(t *testing.T, n int) []api.Row {
	t.Helper()
	var l []api.Row
	for i := range n {
		l = append(l, row(t, "t", strconv.Itoa(i), pathsOf(l[max(0, i-2):])...))
	}
	return l
}

func TestClosureOfMany(t *testing.T) {
	l := tower(t, api.MaxPaths)
	s := filled(t, l...)
	for i, r := range l {
		are(t, "Closure "+strconv.Itoa(i), s.Closure(r.Path), l[:i+1]...)
	}
	answered(t, "Root", s.Root(l[40].Path), api.OK)
	are(t, "Live", s.Live(), l[:41]...)
	are(t, "Sweep", s.Sweep(), l[41:]...)
	answered(t, "Unroot", s.Unroot(l[40].Path), api.OK)
	are(t, "Sweep", s.Sweep(), l[:41]...)
	nothingThere(t, s, pathsOf(l)...)
}

func TestRootsAndLive(t *testing.T) {
	k := newStock(t)
	s := filled(t, k.all()...)
	are(t, "Roots, none", s.Roots())
	are(t, "Live of none", s.Live())
	answered(t, "Root", s.Root(k.b.Path), api.OK)
	are(t, "Roots, one", s.Roots(), k.b)
	are(t, "Live of one", s.Live(), k.a, k.b)
	answered(t, "Root", s.Root(k.g.Path), api.OK)
	are(t, "Live of a root that a root comes to", s.Live(), k.a, k.b, k.d, k.g)
	answered(t, "Root", s.Root(k.f.Path), api.OK)
	are(t, "Roots, three", s.Roots(), k.b, k.f, k.g)
	are(t, "Live of some that share", s.Live(), k.a, k.b, k.d, k.f, k.g)
	answered(t, "Unroot", s.Unroot(k.g.Path), api.OK)
	are(t, "Roots, two", s.Roots(), k.b, k.f)
	are(t, "Live of two that share none", s.Live(), k.a, k.b, k.d, k.f)
	answered(t, "Root", s.Root(k.e.Path), api.OK)
	are(t, "Live of all but one", s.Live(), k.a, k.b, k.c, k.d, k.e, k.f)
}

// TestAnswersRise puts rows in many orders: no answer hangs on it.
func TestAnswersRise(t *testing.T) {
	l := many(t, 40)
	one := row(t, "one", "1", l[3].Path)
	var above []api.Row
	for i := range 20 {
		above = append(above, row(t, "up", strconv.Itoa(i), one.Path, l[i].Path))
	}
	draw := rand.New(rand.NewSource(10))
	for range 30 {
		s := New()
		for _, i := range draw.Perm(len(l)) {
			put(t, s, api.OK, l[i])
		}
		put(t, s, api.OK, one)
		for _, i := range draw.Perm(len(above)) {
			put(t, s, api.OK, above[i])
		}
		roots := draw.Perm(len(above))[:api.MaxRoots]
		want, kept := []api.Row{}, []api.Row{one}
		for _, i := range roots {
			answered(t, "Root", s.Root(above[i].Path), api.OK)
			want = append(want, above[i])
			kept = append(kept, above[i], l[i])
		}
		if !slices.Contains(roots, 3) {
			kept = append(kept, l[3])
		}
		are(t, "Paths", s.Paths(), slices.Concat(l, []api.Row{one}, above)...)
		are(t, "Referrers", s.Referrers(one.Path), above...)
		are(t, "Roots", s.Roots(), want...)
		are(t, "Live", s.Live(), kept...)
		are(t, "Closure", s.Closure(above[0].Path), above[0], one, l[3], l[0])
		gone := slices.DeleteFunc(slices.Concat(l, above), func(r api.Row) bool { return slices.Contains(s.Live(), r.Path) })
		are(t, "Sweep", s.Sweep(), gone...)
	}
}

// overwrite writes over a list, and over what lies behind its end.
func overwrite(l []string) {
	l = l[:cap(l)]
	for i := range l {
		l[i] = "over"
	}
}

func TestAnswersWrittenOver(t *testing.T) {
	k := newStock(t)
	s := filled(t, k.all()...)
	for _, r := range []api.Row{k.e, k.f} {
		answered(t, "Root", s.Root(r.Path), api.OK)
	}
	paths := append(pathsOf(k.all()), "none")
	was := tell(t, s, paths...)
	unchanged(t, s, paths, func() {
		for _, answer := range []func() []string{s.Paths, s.Roots, s.Live} {
			other := answer()
			kept := slices.Clone(other)
			overwrite(answer())
			if !slices.Equal(other, kept) {
				t.Errorf("another answer was written over: %q", other)
			}
		}
		for _, path := range paths {
			for _, answer := range []func(string) []string{s.Refs, s.Referrers, s.Closure} {
				overwrite(answer(path))
			}
			r, _ := s.Get(path)
			clear(r.Archive[:cap(r.Archive)])
			overwrite(r.Refs)
		}
	})
	other, _ := s.Get(k.c.Path)
	r, _ := s.Get(k.c.Path)
	clear(r.Archive)
	overwrite(r.Refs)
	if !sameRow(other, k.c) {
		t.Errorf("another row was written over: %v", other)
	}
	overwrite(s.Sweep())
	if s.Has(k.g.Path) || len(s.Paths()) != 6 || !s.Check() {
		t.Error(s.Paths())
	}
	put(t, s, api.OK, k.g)
	if is := tell(t, s, paths...); !slices.Equal(is.Paths, was.Paths) || !slices.Equal(is.Live, was.Live) {
		t.Error(is.Paths, is.Live)
	}
}

func TestRowsWrittenOver(t *testing.T) {
	k, kept := newStock(t), newStock(t)
	l := k.all()
	s := filled(t, l...)
	unchanged(t, s, pathsOf(kept.all()), func() {
		for i := range l {
			clear(l[i].Archive[:cap(l[i].Archive)])
			overwrite(l[i].Refs)
			l[i] = api.Row{Path: "over"}
		}
	})
	for _, r := range kept.all() {
		if got, there := s.Get(r.Path); !there || !sameRow(got, r) {
			t.Errorf("%s: %v", r.Name, got)
		}
	}
}

// TestNothingIsWrittenInto hands in lists that are pieces of longer ones.
func TestNothingIsWrittenInto(t *testing.T) {
	k, kept := newStock(t), newStock(t)
	bad := row(t, "bad", "bad", k.c.Path)
	bad.Name = "worse"
	long := append(k.all(), bad)
	refs := append(slices.Clone(k.c.Refs), "behind", "it")
	long[2].Refs = refs[:2]
	s := New()
	put(t, s, api.ErrName, long...)
	put(t, s, api.OK, long[:3]...)
	put(t, s, api.OK, long[1:7]...)
	put(t, s, api.ErrName, long...)
	for _, r := range kept.all() {
		s.Root(r.Path)
		s.Unroot(r.Path)
		s.Delete(r.Path)
	}
	s.Sweep()
	for i, r := range kept.all() {
		if !sameRow(long[i], r) {
			t.Errorf("%s was written into: %v", r.Name, long[i])
		}
	}
	if refs[2] != "behind" || refs[3] != "it" || long[7].Name != "worse" {
		t.Error(refs, long[7])
	}
}
