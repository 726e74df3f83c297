package db

import (
	"slices"
	"strconv"
	"strings"
	"testing"

	"godown/api"
	"godown/name"
)

// misfits are rows whose path isn't their own, each in another way. What they refer to isn't looked at.
func misfits(t *testing.T, k stock) map[string]api.Row {
	t.Helper()
	m := map[string]api.Row{
		"nothing at all":    {},
		"a path alone":      {Path: k.a.Path},
		"another's path":    {Path: k.d.Path, Name: "a", Archive: k.a.Archive},
		"another name":      {Path: k.a.Path, Name: "b", Archive: k.a.Archive},
		"another archive":   {Path: k.a.Path, Name: "a", Archive: []byte("2")},
		"no archive":        {Path: k.a.Path, Name: "a"},
		"one ref more":      {Path: k.a.Path, Name: "a", Archive: k.a.Archive, Refs: []string{k.d.Path}},
		"one ref less":      {Path: k.c.Path, Name: "c", Archive: k.c.Archive, Refs: k.c.Refs[:1]},
		"refs that fall":    {Path: k.c.Path, Name: "c", Archive: k.c.Archive, Refs: []string{k.c.Refs[1], k.c.Refs[0]}},
		"one ref twice":     {Path: k.b.Path, Name: "b", Archive: k.b.Archive, Refs: []string{k.a.Path, k.a.Path}},
		"a ref that's none": {Path: k.b.Path, Name: "b", Archive: k.b.Archive, Refs: []string{"none"}},
		"an empty ref":      {Path: k.b.Path, Name: "b", Archive: k.b.Archive, Refs: []string{""}},
		"a wrong name":      {Path: k.a.Path[:name.Digits] + "-.a", Name: ".a", Archive: k.a.Archive},
		"too long a name":   {Path: k.a.Path, Name: strings.Repeat("a", api.MaxName+1), Archive: k.a.Archive},
		"no name":           {Path: k.a.Path, Archive: k.a.Archive},
		"no path":           {Name: "a", Archive: k.a.Archive},
		"no path at all":    {Path: "a", Name: "a", Archive: k.a.Archive},
		"a longer path":     {Path: k.a.Path + "x", Name: "a", Archive: k.a.Archive},
		"very many refs":    {Path: k.b.Path, Name: "b", Archive: k.b.Archive, Refs: make([]string, 1<<16)},
		"itself as a ref":   {Path: k.a.Path, Name: "a", Archive: k.a.Archive, Refs: []string{k.a.Path}},
		"two faults":        {Path: k.a.Path, Name: "a", Archive: k.a.Archive, Refs: []string{zeros + "-none"}},
	}
	return m
}

// full answers a store of as many rows as there may be, and these.
func full(t *testing.T) (*Store, []api.Row) {
	t.Helper()
	l := many(t, api.MaxPaths)
	s := filled(t, l...)
	if len(s.Paths()) != api.MaxPaths {
		t.Fatal(len(s.Paths()))
	}
	return s, l
}

func TestPutErrName(t *testing.T) {
	k := newStock(t)
	paths := append(pathsOf(k.all()), strays(k)...)
	for what, bad := range misfits(t, k) {
		for _, there := range [][]api.Row{nil, {k.a, k.d}, k.all()} {
			s := filled(t, there...)
			unchanged(t, s, paths, func() {
				if e := s.Put([]api.Row{bad}); e != api.ErrName {
					t.Errorf("%s, %d are there: %d", what, len(there), e)
				}
			})
		}
	}
}

func TestPutErrRefs(t *testing.T) {
	k := newStock(t)
	paths := pathsOf(k.all())
	alien := row(t, "alien", "x", zeros+"-none")
	half := row(t, "half", "x", k.a.Path, zeros+"-none")
	for i, c := range []struct {
		there, l []api.Row
		want     api.Errno
	}{
		{nil, []api.Row{k.b}, api.ErrRefs},
		{nil, []api.Row{alien}, api.ErrRefs},
		{k.all(), []api.Row{alien}, api.ErrRefs},
		{[]api.Row{k.a}, []api.Row{half}, api.ErrRefs},
		{[]api.Row{k.a}, []api.Row{k.b}, api.OK},
		{[]api.Row{k.a}, []api.Row{k.c}, api.ErrRefs},
		{nil, []api.Row{k.a, k.b}, api.OK},
		{nil, []api.Row{k.b, k.a}, api.ErrRefs},
		{nil, []api.Row{k.a, k.c, k.b}, api.ErrRefs},
		{nil, []api.Row{k.a, k.b, k.c}, api.OK},
		{[]api.Row{k.a}, []api.Row{k.c, k.b}, api.ErrRefs},
		{[]api.Row{k.a}, []api.Row{k.b, k.c}, api.OK},
		{[]api.Row{k.a, k.b}, []api.Row{k.c}, api.OK},
		{nil, []api.Row{k.a, k.d, k.b, k.f, k.c, k.g, k.e}, api.OK},
		{nil, []api.Row{k.a, k.d, k.b, k.e, k.c}, api.ErrRefs},
		{[]api.Row{k.a, k.b}, []api.Row{k.b, k.c, k.a}, api.OK},
		{[]api.Row{k.a, k.b}, []api.Row{k.b, k.e, k.c}, api.ErrRefs},
	} {
		s := filled(t, c.there...)
		if c.want == api.OK {
			put(t, s, api.OK, c.l...)
			are(t, "Paths "+strconv.Itoa(i), s.Paths(), union(c.there, c.l)...)
			continue
		}
		unchanged(t, s, append(paths, alien.Path, half.Path, zeros+"-none"), func() {
			if e := s.Put(c.l); e != c.want {
				t.Errorf("%d: %d, want %d", i, e, c.want)
			}
		})
	}
}

// union answers the rows of both lists, each once.
func union(a, b []api.Row) []api.Row {
	l := slices.Clone(a)
	for _, r := range b {
		if !slices.Contains(pathsOf(l), r.Path) {
			l = append(l, r)
		}
	}
	return l
}

// TestPutOfRefsThatWent has rows whose refs were there once.
func TestPutOfRefsThatWent(t *testing.T) {
	k := newStock(t)
	s := filled(t, k.a, k.d)
	answered(t, "Delete", s.Delete(k.a.Path), api.OK)
	unchanged(t, s, pathsOf(k.all()), func() { put(t, s, api.ErrRefs, k.b) })
	put(t, s, api.ErrName, k.a, k.b, api.Row{})
	unchanged(t, s, pathsOf(k.all()), func() { put(t, s, api.ErrRefs, k.b) })
	put(t, s, api.OK, k.a, k.b)
	are(t, "Referrers", s.Referrers(k.a.Path), k.b)
}

func TestPutWhatIsThere(t *testing.T) {
	k := newStock(t)
	paths := pathsOf(k.all())
	s := New()
	unchanged(t, s, paths, func() { put(t, s, api.OK) })
	unchanged(t, s, paths, func() { answered(t, "Put of an empty list", s.Put([]api.Row{}), api.OK) })
	put(t, s, api.OK, k.a, k.a, k.b, k.a, k.b)
	are(t, "Paths", s.Paths(), k.a, k.b)
	if s.Version() != 1 {
		t.Error(s.Version())
	}
	unchanged(t, s, paths, func() { put(t, s, api.OK, k.a) })
	unchanged(t, s, paths, func() { put(t, s, api.OK, k.b, k.a, k.b) })
	put(t, s, api.OK, k.b, k.c, k.a, k.c)
	are(t, "Paths", s.Paths(), k.a, k.b, k.c)
	if s.Version() != 2 || s.Stamp(k.c.Path) != 2 {
		t.Error(s.Version(), s.Stamp(k.c.Path))
	}
	other := k.a
	other.Archive = []byte("other")
	unchanged(t, s, paths, func() { put(t, s, api.ErrName, other) })
	unchanged(t, s, paths, func() { put(t, s, api.ErrName, k.d, other) })
}

// TestPutPassesOverNoRoot has a root whose row is put again: it stays one.
func TestPutPassesOverNoRoot(t *testing.T) {
	k := newStock(t)
	s := filled(t, k.a)
	answered(t, "Root", s.Root(k.a.Path), api.OK)
	put(t, s, api.OK, k.a, k.b)
	are(t, "Roots", s.Roots(), k.a)
}

func TestPutErrLarge(t *testing.T) {
	s, l := full(t)
	more := row(t, "more", "1")
	above := row(t, "above", "2", l[0].Path)
	lost := row(t, "lost", "3", zeros+"-none")
	bad := more
	bad.Name = "bad"
	badAndLost := lost
	badAndLost.Name = "bad"
	paths := append(pathsOf(l), more.Path, above.Path, lost.Path)
	for i, c := range []struct {
		l    []api.Row
		want api.Errno
	}{
		{nil, api.OK}, {l, api.OK}, {l[:1], api.OK}, {[]api.Row{l[63], l[63], l[0]}, api.OK},
		{[]api.Row{more}, api.ErrLarge}, {[]api.Row{above}, api.ErrLarge}, {[]api.Row{l[5], more}, api.ErrLarge},
		{[]api.Row{lost}, api.ErrRefs}, {[]api.Row{bad}, api.ErrName}, {[]api.Row{badAndLost}, api.ErrName},
		{[]api.Row{more, bad}, api.ErrLarge}, {[]api.Row{bad, more}, api.ErrName}, {[]api.Row{more, lost}, api.ErrLarge},
		{[]api.Row{lost, more}, api.ErrRefs}, {[]api.Row{lost, bad}, api.ErrRefs}, {[]api.Row{bad, lost}, api.ErrName},
	} {
		unchanged(t, s, paths, func() {
			if e := s.Put(c.l); e != c.want {
				t.Errorf("%d: %d, want %d", i, e, c.want)
			}
		})
	}
	answered(t, "Delete", s.Delete(l[7].Path), api.OK)
	unchanged(t, s, paths, func() { put(t, s, api.ErrLarge, more, above) })
	unchanged(t, s, paths, func() { put(t, s, api.ErrLarge, l[7], more) })
	unchanged(t, s, paths, func() { put(t, s, api.ErrName, more, bad, above) })
	unchanged(t, s, paths, func() { put(t, s, api.ErrRefs, more, lost, above) })
	unchanged(t, s, paths, func() { put(t, s, api.ErrLarge, more, above, lost) })
	put(t, s, api.OK, more, more)
	unchanged(t, s, paths, func() { put(t, s, api.ErrLarge, l[7]) })
	if len(s.Sweep()) != api.MaxPaths {
		t.Error("Sweep of a full store")
	}
	put(t, s, api.OK, l...)
}

// TestPutOfManyRows puts lists of as many rows as there may be, and of one more.
func TestPutOfManyRows(t *testing.T) {
	l := many(t, api.MaxPaths+1)
	paths := pathsOf(l)
	s := New()
	unchanged(t, s, paths, func() { put(t, s, api.ErrLarge, l...) })
	put(t, s, api.OK, l[:10]...)
	unchanged(t, s, paths, func() { put(t, s, api.ErrLarge, l[10:]...) })
	unchanged(t, s, paths, func() { put(t, s, api.ErrLarge, l...) })
	put(t, s, api.OK, slices.Concat(l[:64], l[:64], l[3:64])...)
	are(t, "Paths", s.Paths(), l[:64]...)
	if s.Version() != 2 {
		t.Error(s.Version())
	}
	unchanged(t, s, paths, func() { put(t, s, api.ErrLarge, l[64]) })
	o := New()
	for i, r := range l {
		want := api.OK
		if i == api.MaxPaths {
			want = api.ErrLarge
		}
		put(t, o, want, r)
	}
	if !Same(s, o) {
		t.Error("not the Same")
	}
	unchanged(t, o, paths, func() { answered(t, "Put of empty rows", o.Put(make([]api.Row, 1<<16)), api.ErrName) })
}

// TestPutErrorsOfTwoRows has each fault ahead of each other one, and a row with two.
func TestPutErrorsOfTwoRows(t *testing.T) {
	k := newStock(t)
	bad, lost := k.f, row(t, "lost", "3", zeros+"-none")
	bad.Archive = []byte("bad")
	both := lost
	both.Name = "both"
	for i, c := range []struct {
		l    []api.Row
		want api.Errno
	}{
		{[]api.Row{bad, lost}, api.ErrName}, {[]api.Row{lost, bad}, api.ErrRefs},
		{[]api.Row{k.a, bad, lost}, api.ErrName}, {[]api.Row{k.a, lost, bad}, api.ErrRefs},
		{[]api.Row{both}, api.ErrName}, {[]api.Row{both, lost}, api.ErrName}, {[]api.Row{lost, both}, api.ErrRefs},
		{[]api.Row{k.c, bad}, api.ErrRefs}, {[]api.Row{bad, k.c}, api.ErrName}, {[]api.Row{k.a, k.a, k.b, k.e, bad}, api.ErrRefs},
	} {
		s := New()
		unchanged(t, s, append(pathsOf(k.all()), lost.Path), func() {
			if e := s.Put(c.l); e != c.want {
				t.Errorf("%d: %d, want %d", i, e, c.want)
			}
		})
	}
}

// TestPutAllOrNothing lays each fault at each place of a list that would do, with some of it there already.
func TestPutAllOrNothing(t *testing.T) {
	k := newStock(t)
	lost := row(t, "lost", "3", zeros+"-none")
	paths := append(pathsOf(k.all()), lost.Path)
	faults := map[api.Errno]api.Row{api.ErrRefs: lost, api.ErrName: {Path: k.e.Path, Name: "e"}}
	for _, there := range []int{0, 1, 3} {
		for place := range len(k.all()) + 1 {
			for want, fault := range faults {
				s := filled(t, k.all()[:there]...)
				l := slices.Insert(k.all(), place, fault)
				unchanged(t, s, paths, func() { put(t, s, want, l...) })
				unchanged(t, s, paths, func() { put(t, s, want, l...) })
				version := s.Version()
				put(t, s, api.OK, k.all()...)
				are(t, "Paths", s.Paths(), k.all()...)
				if s.Version() != version+1 || s.Stamp(k.e.Path) != version+1 {
					t.Error(s.Version(), s.Stamp(k.e.Path))
				}
			}
		}
	}
}

func TestRoot(t *testing.T) {
	k := newStock(t)
	s := New()
	paths := append(pathsOf(k.all()), strays(k)...)
	for _, path := range paths {
		unchanged(t, s, paths, func() { answered(t, "Root of what isn't there", s.Root(path), api.ErrNone) })
	}
	put(t, s, api.OK, k.a, k.b)
	for _, path := range append(strays(k), k.c.Path) {
		unchanged(t, s, paths, func() { answered(t, "Root of what isn't there", s.Root(path), api.ErrNone) })
	}
	answered(t, "Root", s.Root(k.a.Path), api.OK)
	are(t, "Roots", s.Roots(), k.a)
	unchanged(t, s, paths, func() { answered(t, "Root again", s.Root(k.a.Path), api.OK) })
	answered(t, "Root", s.Root(k.b.Path), api.OK)
	are(t, "Roots", s.Roots(), k.a, k.b)
}

func TestMostRoots(t *testing.T) {
	l := many(t, api.MaxRoots+2)
	gone := l[api.MaxRoots+1]
	s := filled(t, l...)
	answered(t, "Delete", s.Delete(gone.Path), api.OK)
	paths := pathsOf(l)
	for i, r := range l[:api.MaxRoots] {
		answered(t, "Root "+strconv.Itoa(i), s.Root(r.Path), api.OK)
	}
	are(t, "Roots", s.Roots(), l[:16]...)
	unchanged(t, s, paths, func() {
		answered(t, "one more", s.Root(l[16].Path), api.ErrLarge)
		answered(t, "one that isn't there", s.Root(gone.Path), api.ErrNone)
		answered(t, "no path", s.Root(""), api.ErrNone)
		for _, r := range l[:16] {
			answered(t, "one of them", s.Root(r.Path), api.OK)
		}
	})
	answered(t, "Unroot", s.Unroot(l[3].Path), api.OK)
	answered(t, "one more", s.Root(l[16].Path), api.OK)
	unchanged(t, s, paths, func() { answered(t, "one too many", s.Root(l[3].Path), api.ErrLarge) })
	are(t, "Roots", s.Roots(), slices.Concat(l[:3], l[4:17])...)
}

func TestUnroot(t *testing.T) {
	k := newStock(t)
	s := filled(t, k.a, k.b)
	answered(t, "Root", s.Root(k.b.Path), api.OK)
	paths := append(pathsOf(k.all()), strays(k)...)
	for _, path := range append(strays(k), k.a.Path, k.c.Path) {
		unchanged(t, s, paths, func() { answered(t, "Unroot of no root", s.Unroot(path), api.ErrNone) })
	}
	answered(t, "Unroot", s.Unroot(k.b.Path), api.OK)
	are(t, "Roots", s.Roots())
	are(t, "Live", s.Live())
	are(t, "Paths", s.Paths(), k.a, k.b)
	unchanged(t, s, paths, func() { answered(t, "Unroot again", s.Unroot(k.b.Path), api.ErrNone) })
	answered(t, "Delete", s.Delete(k.b.Path), api.OK)
	answered(t, "Unroot of what is gone", s.Unroot(k.b.Path), api.ErrNone)
	put(t, s, api.OK, k.b)
	answered(t, "Root again", s.Root(k.b.Path), api.OK)
	are(t, "Live", s.Live(), k.a, k.b)
}

func TestDelete(t *testing.T) {
	k := newStock(t)
	s := filled(t, k.all()...)
	paths := append(pathsOf(k.all()), strays(k)...)
	for _, path := range strays(k) {
		unchanged(t, s, paths, func() { answered(t, "Delete of what isn't there", s.Delete(path), api.ErrNone) })
	}
	for _, r := range []api.Row{k.a, k.b, k.c, k.d} {
		unchanged(t, s, paths, func() { answered(t, "Delete of "+r.Name, s.Delete(r.Path), api.ErrAlive) })
	}
	answered(t, "Root", s.Root(k.e.Path), api.OK)
	answered(t, "Root", s.Root(k.c.Path), api.OK)
	unchanged(t, s, paths, func() {
		answered(t, "Delete of a root", s.Delete(k.e.Path), api.ErrAlive)
		answered(t, "Delete of a root that is referred to", s.Delete(k.c.Path), api.ErrAlive)
	})
	answered(t, "Unroot", s.Unroot(k.e.Path), api.OK)
	for i, r := range []api.Row{k.e, k.f, k.g} {
		answered(t, "Delete of "+r.Name, s.Delete(r.Path), api.OK)
		nothingOf(t, s, r)
		are(t, "Paths", s.Paths(), slices.Concat([]api.Row{k.a, k.b, k.c, k.d}, []api.Row{k.f, k.g}[min(i, 2):])...)
		unchanged(t, s, paths, func() { answered(t, "Delete again", s.Delete(r.Path), api.ErrNone) })
	}
	answered(t, "Unroot", s.Unroot(k.c.Path), api.OK)
	for _, r := range []api.Row{k.c, k.d, k.b, k.a} {
		answered(t, "Delete of "+r.Name, s.Delete(r.Path), api.OK)
	}
	nothingThere(t, s, paths...)
	if len(s.referrers) != 0 || len(s.roots) != 0 || s.table.Mark() != 0 {
		t.Error("an empty store keeps", s.referrers, s.roots, s.table.Mark())
	}
}

// nothingOf tells that a row is gone, and that nobody is referred to by it.
func nothingOf(t *testing.T, s *Store, r api.Row) {
	t.Helper()
	if s.Has(r.Path) || slices.Contains(s.Paths(), r.Path) || !s.Check() {
		t.Errorf("%s is there", r.Name)
	}
	for _, ref := range r.Refs {
		if slices.Contains(s.Referrers(ref), r.Path) {
			t.Errorf("%s refers to %s", r.Name, ref)
		}
	}
}

func TestSweep(t *testing.T) {
	k := newStock(t)
	paths := pathsOf(k.all())
	s := New()
	unchanged(t, s, paths, func() { are(t, "of an empty store", s.Sweep()) })
	put(t, s, api.OK, k.all()...)
	are(t, "of all", s.Sweep(), k.all()...)
	nothingThere(t, s, paths...)
	unchanged(t, s, paths, func() { are(t, "again", s.Sweep()) })
	if s.Version() != 2 || s.table.Mark() != 0 || len(s.referrers) != 0 {
		t.Error(s.Version(), s.table.Mark(), s.referrers)
	}
	put(t, s, api.OK, k.all()...)
	for _, r := range []api.Row{k.e, k.f, k.g} {
		answered(t, "Root", s.Root(r.Path), api.OK)
	}
	unchanged(t, s, paths, func() { are(t, "of none", s.Sweep()) })
	answered(t, "Unroot", s.Unroot(k.e.Path), api.OK)
	are(t, "of some", s.Sweep(), k.e, k.c)
	nothingOf(t, s, k.e)
	nothingOf(t, s, k.c)
	are(t, "Paths", s.Paths(), k.a, k.b, k.d, k.f, k.g)
	are(t, "Roots", s.Roots(), k.f, k.g)
	answered(t, "Unroot", s.Unroot(k.g.Path), api.OK)
	are(t, "of some more", s.Sweep(), k.a, k.b, k.g)
	are(t, "Paths", s.Paths(), k.d, k.f)
	answered(t, "Unroot", s.Unroot(k.f.Path), api.OK)
	are(t, "of the rest", s.Sweep(), k.d, k.f)
	nothingThere(t, s, paths...)
}

// TestSweepKeepsWhatARootComesTo has a root in the midst: what refers to it goes, what it refers to stays.
func TestSweepKeepsWhatARootComesTo(t *testing.T) {
	l := tower(t, 20)
	for i, r := range l {
		s := filled(t, l...)
		answered(t, "Root", s.Root(r.Path), api.OK)
		are(t, "Sweep", s.Sweep(), l[i+1:]...)
		are(t, "Paths", s.Paths(), l[:i+1]...)
		are(t, "Roots", s.Roots(), r)
		are(t, "Referrers", s.Referrers(r.Path))
		if !s.Check() {
			t.Error("Check isn't so")
		}
	}
}

// at is a store's Version, and Stamps of some paths, in the order of a stock's rows.
func at(t *testing.T, what string, s *Store, k stock, version uint64, stamps ...uint64) {
	t.Helper()
	if s.Version() != version {
		t.Errorf("%s: Version %d, want %d", what, s.Version(), version)
	}
	for i, r := range k.all() {
		if got := s.Stamp(r.Path); got != stamps[i] {
			t.Errorf("%s: Stamp of %s %d, want %d", what, r.Name, got, stamps[i])
		}
	}
	for _, path := range strays(k) {
		if got := s.Stamp(path); got != 0 {
			t.Errorf("%s: Stamp of %q %d", what, path, got)
		}
	}
}

func TestVersionAndStamps(t *testing.T) {
	k := newStock(t)
	s := New()
	at(t, "New", s, k, 0, 0, 0, 0, 0, 0, 0, 0)
	put(t, s, api.OK)
	put(t, s, api.ErrRefs, k.a, k.c)
	put(t, s, api.ErrName, k.a, api.Row{})
	at(t, "nothing put", s, k, 0, 0, 0, 0, 0, 0, 0, 0)
	put(t, s, api.OK, k.a)
	at(t, "a", s, k, 1, 1, 0, 0, 0, 0, 0, 0)
	put(t, s, api.OK, k.a)
	at(t, "a again", s, k, 1, 1, 0, 0, 0, 0, 0, 0)
	put(t, s, api.OK, k.a, k.d)
	at(t, "d", s, k, 2, 1, 0, 0, 2, 0, 0, 0)
	put(t, s, api.OK, k.b)
	at(t, "b", s, k, 3, 3, 3, 0, 2, 0, 0, 0)
	put(t, s, api.OK, k.c, k.e, k.f)
	at(t, "c, e, f", s, k, 4, 4, 4, 4, 4, 4, 4, 0)
	put(t, s, api.OK, k.g, k.a)
	at(t, "g", s, k, 5, 4, 5, 4, 5, 4, 4, 5)
	answered(t, "Root", s.Root(k.e.Path), api.OK)
	at(t, "e a root", s, k, 6, 4, 5, 4, 5, 6, 4, 5)
	answered(t, "Root", s.Root(k.e.Path), api.OK)
	answered(t, "Root", s.Root("none"), api.ErrNone)
	answered(t, "Unroot", s.Unroot(k.a.Path), api.ErrNone)
	answered(t, "Delete", s.Delete(k.e.Path), api.ErrAlive)
	answered(t, "Delete", s.Delete(k.a.Path), api.ErrAlive)
	answered(t, "Delete", s.Delete("none"), api.ErrNone)
	at(t, "nothing done", s, k, 6, 4, 5, 4, 5, 6, 4, 5)
	answered(t, "Delete", s.Delete(k.f.Path), api.OK)
	at(t, "f gone", s, k, 7, 4, 5, 4, 7, 6, 7, 5)
	answered(t, "Root", s.Root(k.d.Path), api.OK)
	at(t, "d a root", s, k, 8, 4, 5, 4, 8, 6, 7, 5)
	are(t, "Sweep", s.Sweep(), k.g)
	at(t, "g gone", s, k, 9, 4, 9, 4, 9, 6, 7, 9)
	are(t, "Sweep", s.Sweep())
	at(t, "none gone", s, k, 9, 4, 9, 4, 9, 6, 7, 9)
	answered(t, "Unroot", s.Unroot(k.e.Path), api.OK)
	at(t, "e no root", s, k, 10, 4, 9, 4, 9, 10, 7, 9)
	answered(t, "Delete", s.Delete(k.e.Path), api.OK)
	at(t, "e gone", s, k, 11, 4, 9, 11, 11, 11, 7, 9)
	are(t, "Sweep", s.Sweep(), k.a, k.b, k.c)
	at(t, "a, b, c gone", s, k, 12, 12, 12, 12, 11, 11, 7, 9)
	put(t, s, api.OK, k.f)
	at(t, "f there again", s, k, 13, 12, 12, 12, 13, 11, 13, 9)
	put(t, s, api.ErrRefs, k.a, k.g)
	at(t, "nothing put", s, k, 13, 12, 12, 12, 13, 11, 13, 9)
}

// TestStampsAreNotHandedOn: what a path comes to by another one isn't touched.
func TestStampsAreNotHandedOn(t *testing.T) {
	k := newStock(t)
	s := filled(t, k.a, k.b, k.c, k.d)
	put(t, s, api.OK, k.e)
	at(t, "e", s, k, 2, 1, 1, 2, 2, 2, 0, 0)
	answered(t, "Root", s.Root(k.c.Path), api.OK)
	at(t, "c a root", s, k, 3, 1, 1, 3, 2, 2, 0, 0)
	answered(t, "Unroot", s.Unroot(k.c.Path), api.OK)
	at(t, "c no root", s, k, 4, 1, 1, 4, 2, 2, 0, 0)
}
