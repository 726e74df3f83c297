package atom

import (
	"bytes"
	"math"
	"math/rand"
	"slices"
	"strconv"
	"strings"
	"testing"

	"godown/api"
)

const zeros = "00000000000000000000000000000000"

func all(string) bool { return true }

func none(string) bool { return false }

// these answers a has of some paths.
func these(paths ...string) func(string) bool {
	return func(path string) bool { return slices.Contains(paths, path) }
}

func add(name string, archive []byte, refs ...string) api.Request {
	return api.Request{Kind: api.Add, Name: name, Archive: archive, Refs: refs}
}

func register(outs ...api.Out) api.Request { return api.Request{Kind: api.Register, Outs: outs} }

// rowOf answers a row, the refs in their order.
func rowOf(name string, archive []byte, refs ...string) api.Row {
	refs = sorted(refs)
	return api.Row{Path: pathOf(name, archive, refs...), Name: name, Archive: archive, Refs: refs}
}

func sameRow(a, b api.Row) bool {
	return a.Path == b.Path && a.Name == b.Name && bytes.Equal(a.Archive, b.Archive) && slices.Equal(a.Refs, b.Refs)
}

// tells holds the rows of a request against those that are wanted.
func tells(t *testing.T, what string, has func(string) bool, r api.Request, want ...api.Row) {
	t.Helper()
	if rows, e := Rows(has, r); e != api.OK || !slices.EqualFunc(rows, want, sameRow) {
		t.Errorf("%s: %v, %d, want %v", what, rows, e, want)
	}
}

// refuses tells that there is an error, and nothing beside it.
func refuses(t *testing.T, what string, has func(string) bool, r api.Request, want api.Errno) {
	t.Helper()
	if rows, e := Rows(has, r); e != want || len(rows) != 0 {
		t.Errorf("%s: %v, %d, want %d", what, rows, e, want)
	}
}

// kin answers paths of small rows, rising.
func kin(n int) []string {
	var l []string
	for i := range n {
		l = append(l, pathOf("k"+strconv.Itoa(i), simple(strconv.Itoa(i))))
	}
	return sorted(l)
}

func TestRowsOfAdd(t *testing.T) {
	k := kin(4)
	plain := simple("plain")
	tells(t, "without refs", none, add("a", plain), rowOf("a", plain))
	tells(t, "without refs, has is nil", nil, add("a", plain), rowOf("a", plain))
	tells(t, "the longest name", none, add(strings.Repeat("n", 40), plain), rowOf(strings.Repeat("n", 40), plain))
	tells(t, "refs that it doesn't name", all, add("a", plain, k...), rowOf("a", plain))
	tells(t, "refs that it doesn't name and that aren't there", none, add("a", plain, k...), rowOf("a", plain))
	tells(t, "refs that are no paths", none, add("a", plain, "", "none", k[0]+"/", k[0][:33], "plain"), rowOf("a", plain))
	one := simple("see " + k[2])
	tells(t, "one of them", all, add("a", one, k...), rowOf("a", one, k[2]))
	tells(t, "one of them, the others aren't there", these(k[2]), add("a", one, k...), rowOf("a", one, k[2]))
	tells(t, "what it names isn't told", none, add("a", one, k[0], k[1]), rowOf("a", one))
	tells(t, "no refs are told", all, add("a", one), rowOf("a", one))
	tells(t, "one of them, and what is no path", these(k[2]), add("a", one, "none", k[2], "see", k[2][:32]), rowOf("a", one, k[2]))
	some := simple(k[3] + k[1][:32] + k[0])
	tells(t, "some, falling", these(k...), add("a", some, k[3], k[2], k[1], k[0]), rowOf("a", some, k[0], k[1], k[3]))
	tells(t, "some, twice", these(k...), add("a", some, k[1], k[3], k[1], k[0], k[3]), rowOf("a", some, k[0], k[1], k[3]))
	other := k[0][:32] + "-other"
	tells(t, "the same letters of two names", these(k[0], other), add("a", some, other, k[0]), rowOf("a", some, k[0], other))
	target := of(link(k[1])).archive
	tells(t, "a link's target", these(k[1]), add("a", target, k...), rowOf("a", target, k[1]))
	entry := of(dir(k[1][:32], file("", 0))).archive
	tells(t, "a directory's entry", these(k[1]), add("a", entry, k...), rowOf("a", entry, k[1]))
}

func TestRowsTakeNothingElse(t *testing.T) {
	k := kin(2)
	archive := simple(k[0])
	r := add("a", archive, k...)
	r.Path = k[1]
	r.Outs = []api.Out{{Name: ".", Archive: []byte("none"), Refs: []string{"none"}, Needs: []int{7}}}
	tells(t, "an Add with the fields of others", all, r, rowOf("a", archive, k[0]))
	q := register(api.Out{Name: "b", Archive: archive, Refs: k[1:]})
	q.Name, q.Path, q.Archive, q.Refs = ".", "none", []byte("none"), []string{"none"}
	tells(t, "a Register with the fields of others", these(k[1]), q, rowOf("b", archive, k[1]))
}

func TestRowsOfRegister(t *testing.T) {
	k := kin(4)
	p, q := simple("p "+k[0]), simple("q")
	tells(t, "no Outs", none, register())
	tells(t, "no Outs, has is nil", nil, register([]api.Out{}...))
	tells(t, "one", none, register(api.Out{Name: "a", Archive: p}), rowOf("a", p))
	tells(t, "one, has is nil", nil, register(api.Out{Name: "a", Archive: p}), rowOf("a", p))
	tells(t, "refs that it doesn't name", all, register(api.Out{Name: "a", Archive: q, Refs: k}), rowOf("a", q, k...))
	tells(t, "refs, falling and twice", these(k...), register(api.Out{Name: "a", Archive: p, Refs: []string{k[3], k[1], k[3], k[0], k[1]}}), rowOf("a", p, k[0], k[1], k[3]))
	other := k[1][:32] + "-other"
	tells(t, "the same letters of two names", these(k[1], other), register(api.Out{Name: "a", Archive: p, Refs: []string{other, k[1]}}), rowOf("a", p, k[1], other))
	tells(t, "two alike", none, register(api.Out{Name: "a", Archive: p}, api.Out{Name: "a", Archive: p}), rowOf("a", p), rowOf("a", p))
	tells(t, "two in their order", these(k[1:3]...), register(api.Out{Name: "b", Archive: p, Refs: k[2:3]}, api.Out{Name: "a", Archive: q, Refs: k[1:2]}), rowOf("b", p, k[2]), rowOf("a", q, k[1]))
}

func TestRowsOfNeeds(t *testing.T) {
	k := kin(3)
	p := simple("p")
	a := rowOf("a", p, k[0])
	b := rowOf("b", p, a.Path)
	c := rowOf("c", p, k[1], a.Path, b.Path)
	d := rowOf("d", p, c.Path, a.Path, k[0], k[1])
	tells(t, "Needs of Needs", these(k...), register(api.Out{Name: "a", Archive: p, Refs: k[:1]}, api.Out{Name: "b", Archive: p, Needs: []int{0}}, api.Out{Name: "c", Archive: p, Refs: k[1:2], Needs: []int{1, 0}}, api.Out{Name: "d", Archive: p, Refs: k[:2], Needs: []int{2, 0, 2}}), a, b, c, d)
	for _, needs := range [][]int{{0, 1}, {1, 0}, {0, 1, 0}, {1, 1, 0}, {0, 0, 1, 1, 0}} {
		tells(t, "Needs in any order", these(k...), register(api.Out{Name: "a", Archive: p, Refs: k[:1]}, api.Out{Name: "b", Archive: p, Needs: []int{0}}, api.Out{Name: "c", Archive: p, Refs: k[1:2], Needs: needs}), a, b, c)
	}
	tells(t, "Needs alone aren't asked for", none, register(api.Out{Name: "a", Archive: p}, api.Out{Name: "b", Archive: p, Needs: []int{0}}), rowOf("a", p), rowOf("b", p, pathOf("a", p)))
	tells(t, "has is nil", nil, register(api.Out{Name: "a", Archive: p}, api.Out{Name: "b", Archive: p, Needs: []int{0}}), rowOf("a", p), rowOf("b", p, pathOf("a", p)))
	tells(t, "Needs of rows that are alike", none, register(api.Out{Name: "a", Archive: p}, api.Out{Name: "a", Archive: p}, api.Out{Name: "b", Archive: p, Needs: []int{0, 1}}), rowOf("a", p), rowOf("a", p), rowOf("b", p, pathOf("a", p)))
	twice := register(api.Out{Name: "a", Archive: p}, api.Out{Name: "b", Archive: p, Refs: []string{pathOf("a", p)}, Needs: []int{0}})
	for _, has := range []func(string) bool{all, none, nil} {
		tells(t, "a ref that is a Need's path, too", has, twice, rowOf("a", p), rowOf("b", p, pathOf("a", p)))
	}
	several := register(api.Out{Name: "c", Archive: p}, api.Out{Name: "a", Archive: p}, api.Out{Name: "d", Archive: p}, api.Out{Name: "b", Archive: p})
	first := []api.Row{rowOf("c", p), rowOf("a", p), rowOf("d", p), rowOf("b", p)}
	for _, needs := range [][]int{{0, 1, 2, 3}, {3, 2, 1, 0}, {1, 3, 0, 2}, {2, 0, 3, 1}, {2, 2, 0, 3, 0, 1}} {
		last := api.Out{Name: "e", Archive: p, Refs: paths(first...), Needs: needs}
		tells(t, "refs that are the paths of several Needs, too", none, register(append(slices.Clone(several.Outs), last)...), append(slices.Clone(first), rowOf("e", p, paths(first...)...))...)
		for _, n := range needs {
			last.Needs = slices.DeleteFunc(slices.Clone(needs), func(m int) bool { return m == n })
			refuses(t, "refs of which one is no Need's path", none, register(append(slices.Clone(several.Outs), last)...), api.ErrRefs)
		}
	}
	twice.Outs[1].Needs = nil
	tells(t, "a ref that an Out ahead has, and that is there", all, twice, rowOf("a", p), rowOf("b", p, pathOf("a", p)))
	refuses(t, "a ref that an Out ahead has, without a Need", none, twice, api.ErrRefs)
}

// TestRowsOfNoNeeds has places of no Outs ahead: nothing stands there that could be referred to.
func TestRowsOfNoNeeds(t *testing.T) {
	p := simple("p")
	outs := []api.Out{{Name: "a", Archive: p}, {Name: "b", Archive: p}, {Name: "c", Archive: p}}
	a, b, c := rowOf("a", p), rowOf("b", p), rowOf("c", p)
	for _, n := range []int{1, 2, 3, 4, 255, 256, -1, -2, -256, 1 << 32, math.MaxInt, math.MinInt} {
		l := slices.Clone(outs)
		l[1].Needs = []int{n}
		tells(t, "Need "+strconv.Itoa(n), none, register(l...), a, b, c)
		l[1].Needs = []int{n, 0, n}
		tells(t, "Needs 0 and "+strconv.Itoa(n), none, register(l...), a, rowOf("b", p, a.Path), c)
		l[1].Needs = nil
		l[0].Needs = []int{n, 0, n}
		tells(t, "Need of the first one "+strconv.Itoa(n), none, register(l...), a, b, c)
	}
}

func TestRowsOfOtherKinds(t *testing.T) {
	archive := simple("a")
	for kind := range 256 {
		r := api.Request{Kind: byte(kind), Name: "a", Path: pathOf("a", archive), Archive: archive, Outs: []api.Out{{Name: "b", Archive: archive}}}
		switch kind {
		case api.Add:
			tells(t, "Add", none, r, rowOf("a", archive))
		case api.Register:
			tells(t, "Register", none, r, rowOf("b", archive))
		default:
			for _, has := range []func(string) bool{all, none, nil} {
				refuses(t, "kind "+strconv.Itoa(kind), has, r, api.ErrArg)
				refuses(t, "kind alone "+strconv.Itoa(kind), has, api.Request{Kind: byte(kind)}, api.ErrArg)
			}
		}
	}
}

// noArchives are bytes that are no archive, each in another way.
func noArchives() []content {
	good := string(simple("good"))
	deep := file("", 0)
	for range 8 {
		deep = dir("d", deep)
	}
	return []content{
		bad(""), bad("\x00"), bad("none"), bad(good[:len(good)-1]), bad(good + "\x00"), bad(strings.Repeat("\xff", 1<<16)),
		bad(text("godown2") + laid(file("good", 0))), bad(text("godown1")), bad(laid(file("good", 0))),
		bad(text("godown1") + laid(link(""))), bad(text("godown1") + laid(file(strings.Repeat("x", 1025), 0))),
		bad(text("godown1") + laid(dir("b a", file("", 0), file("", 0)))), bad(text("godown1") + laid(deep)),
		bad(text("godown1") + "\x02\x00\x7f\xf8\x00\x00\x00\x00\x00\x00" + text("")), bad(text("godown1") + "\x02\x00\x80\x00\x00\x00\x00\x00\x00\x00" + text("")),
	}
}

var noNames = []string{"", ".", "..", ".x", "A", "a/b", "a b", "a\x00", "ä", "\xff", strings.Repeat("n", 41)}

// noPaths are texts that are no paths, each near to one.
func noPaths() []string {
	k := kin(1)[0]
	return []string{"", "none", "a-b", k[:32], k[:33], k[1:], "0" + k, k + " ", k[:32] + k[33:], k[:32] + "+x", zeros + "-.x", zeros + "-X",
		"e" + k[1:], strings.ToUpper(k[:32]) + k[32:], zeros + "-" + strings.Repeat("n", 41), " " + k, k + "\x00", strings.Repeat("\xff", 1<<16)}
}

func TestRowsErrForm(t *testing.T) {
	k := kin(1)
	for _, c := range noArchives() {
		for _, has := range []func(string) bool{all, none, nil} {
			what := strconv.Quote(string(c.archive[:min(len(c.archive), 40)]))
			refuses(t, "Add of "+what, has, add("a", c.archive), api.ErrForm)
			refuses(t, "Register of "+what, has, register(api.Out{Name: "a", Archive: c.archive}), api.ErrForm)
		}
	}
	refuses(t, "Add of nil", all, api.Request{Kind: api.Add, Name: "a"}, api.ErrForm)
	refuses(t, "Register of nil", all, register(api.Out{Name: "a"}), api.ErrForm)
	refuses(t, "Add of what names a path", all, add("a", []byte(k[0]), k...), api.ErrForm)
	refuses(t, "all empty", nil, api.Request{Kind: api.Add}, api.ErrForm)
	refuses(t, "many that are empty", nil, register(make([]api.Out, 1<<12)...), api.ErrForm)
}

func TestRowsErrName(t *testing.T) {
	for _, name := range noNames {
		for _, has := range []func(string) bool{all, none, nil} {
			refuses(t, "Add of "+name, has, add(name, simple("a")), api.ErrName)
			refuses(t, "Register of "+name, has, register(api.Out{Name: name, Archive: simple("a")}), api.ErrName)
		}
	}
}

func TestRowsErrRefs(t *testing.T) {
	k := kin(4)
	p := simple(strings.Join(k, " "))
	for i, lost := range k {
		has := func(path string) bool { return path != lost }
		for _, refs := range [][]string{k, {lost}, {lost, lost}, {k[3], k[2], k[1], k[0]}} {
			what := strconv.Itoa(i) + " of " + strconv.Itoa(len(refs))
			refuses(t, "Add without "+what, has, add("a", p, refs...), api.ErrRefs)
			refuses(t, "Register without "+what, has, register(api.Out{Name: "a", Archive: p, Refs: refs}), api.ErrRefs)
			refuses(t, "has is nil", nil, add("a", p, refs...), api.ErrRefs)
			refuses(t, "has is nil", nil, register(api.Out{Name: "a", Archive: p, Refs: refs}), api.ErrRefs)
		}
		refuses(t, "a Register with a Need, too", has, register(api.Out{Name: "a", Archive: p}, api.Out{Name: "b", Archive: p, Refs: []string{lost}, Needs: []int{0}}), api.ErrRefs)
	}
	for _, path := range noPaths() {
		refuses(t, "a Register's ref that is no path", all, register(api.Out{Name: "a", Archive: p, Refs: []string{path}}), api.ErrRefs)
		refuses(t, "a Register's ref that is no path, among others", all, register(api.Out{Name: "a", Archive: p, Refs: []string{k[0], path, k[1]}}), api.ErrRefs)
		if len(path) < 1000 {
			q := simple(path)
			tells(t, "an Add's ref that is no path", all, add("a", q, path), rowOf("a", q))
		}
	}
}

// TestRowsOfWildHas has functions that don't answer: no path of theirs is there.
func TestRowsOfWildHas(t *testing.T) {
	k := kin(2)
	p := simple(k[0])
	var empty map[string]map[string]bool
	for _, has := range []func(string) bool{
		func(string) bool { panic("wild") },
		func(path string) bool { empty[path][path] = true; return true },
		func(path string) bool { return path[len(path)] == 'a' },
	} {
		refuses(t, "Add", has, add("a", p, k...), api.ErrRefs)
		refuses(t, "Register", has, register(api.Out{Name: "a", Archive: p}, api.Out{Name: "b", Archive: p, Refs: k, Needs: []int{0}}), api.ErrRefs)
		tells(t, "Add without refs", has, add("a", p), rowOf("a", p))
		refuses(t, "Add of none", has, add("a", nil, k...), api.ErrForm)
	}
	half := func(path string) bool { return path == k[0] || path[len(path)] == 'a' }
	tells(t, "half of it", half, register(api.Out{Name: "a", Archive: p, Refs: k[:1]}), rowOf("a", p, k[0]))
	refuses(t, "the other half", half, register(api.Out{Name: "a", Archive: p, Refs: k}), api.ErrRefs)
}

// fault is what a row has wrong: its error, and an Out that has it.
type fault struct {
	e   api.Errno
	out func(o api.Out) api.Out
}

// faults are all errors of a row, in the order in which they count.
func faults() []fault {
	lost := zeros + "-lost"
	return []fault{
		{api.ErrForm, func(o api.Out) api.Out { o.Archive = append([]byte(nil), o.Archive[1:]...); return o }},
		{api.ErrName, func(o api.Out) api.Out { o.Name = "." + o.Name; return o }},
		{api.ErrRefs, func(o api.Out) api.Out { o.Refs = append([]string{lost}, o.Refs...); return o }},
	}
}

// TestRowsErrorsOfOneRow gives a row each set of faults.
func TestRowsErrorsOfOneRow(t *testing.T) {
	k := kin(1)
	for set := 1; set < 8; set++ {
		out := api.Out{Name: "a", Archive: simple(k[0] + zeros), Refs: k}
		want := api.OK
		for i, f := range slices.Backward(faults()) {
			if set>>i&1 == 1 {
				out, want = f.out(out), f.e
			}
		}
		refuses(t, "Add with "+strconv.Itoa(set), these(k...), add(out.Name, out.Archive, out.Refs...), want)
		refuses(t, "Register with "+strconv.Itoa(set), these(k...), register(out), want)
	}
}

// TestRowsErrorsOfTwoRows gives each two rows of some each two faults: that of the row ahead counts.
func TestRowsErrorsOfTwoRows(t *testing.T) {
	k := kin(1)
	for first := range 4 {
		for second := first + 1; second < 4; second++ {
			for _, f := range faults() {
				for _, g := range faults() {
					var outs []api.Out
					for i := range 4 {
						outs = append(outs, api.Out{Name: "a" + strconv.Itoa(i), Archive: simple(k[0]), Refs: k, Needs: []int{max(i-1, 0)}})
					}
					outs[first], outs[second] = f.out(outs[first]), g.out(outs[second])
					refuses(t, strconv.Itoa(int(f.e))+" ahead of "+strconv.Itoa(int(g.e)), these(k...), register(outs...), f.e)
				}
			}
		}
	}
}

// TestRowsOfManyRefs has as many refs as a path can be made of, and one more: of that there is no row.
func TestRowsOfManyRefs(t *testing.T) {
	k := kin(256)
	p := simple("p")
	tells(t, "255", all, register(api.Out{Name: "a", Archive: p, Refs: k[:255]}), rowOf("a", p, k[:255]...))
	tells(t, "255, each very often", all, register(api.Out{Name: "a", Archive: p, Refs: slices.Repeat(k[:255], 40)}), rowOf("a", p, k[:255]...))
	refuses(t, "256", all, register(api.Out{Name: "a", Archive: p, Refs: k}), api.ErrArg)
	refuses(t, "255, and a Need", all, register(api.Out{Name: "a", Archive: p}, api.Out{Name: "b", Archive: p, Refs: k[:255], Needs: []int{0}}), api.ErrArg)
	refuses(t, "256, of which one isn't there", these(k[1:]...), register(api.Out{Name: "a", Archive: p, Refs: k}), api.ErrRefs)
	var kids []api.Node
	for _, refs := range slices.Collect(slices.Chunk(k, 30)) {
		kids = append(kids, file(strings.Join(refs, "")[:min(1024, len(strings.Join(refs, "")))], 0))
	}
	many := of(dir("a b c d e f g h i", kids...)).archive
	var found []string
	for _, path := range k {
		if strings.Contains(string(many), path[:32]) {
			found = append(found, path)
		}
	}
	tells(t, "an Add with many", all, add("a", many, k...), rowOf("a", many, found...))
	var outs []api.Out
	var rows []api.Row
	for i := range 255 {
		outs = append(outs, api.Out{Name: "n" + strconv.Itoa(i), Archive: p})
		rows = append(rows, rowOf("n"+strconv.Itoa(i), p))
	}
	tells(t, "255 Outs", none, register(outs...), rows...)
	last := api.Out{Name: "last", Archive: p}
	for i := range 255 * 300 {
		last.Needs = append(last.Needs, i%255)
	}
	var paths []string
	for _, row := range rows {
		paths = append(paths, row.Path)
	}
	tells(t, "255 Needs", none, register(append(outs, last)...), append(rows, rowOf("last", p, paths...))...)
}

// copyRequest answers one that shares nothing with r.
func copyRequest(r api.Request) api.Request {
	r.Archive, r.Refs, r.Outs = bytes.Clone(r.Archive), slices.Clone(r.Refs), slices.Clone(r.Outs)
	for i := range r.Outs {
		o := &r.Outs[i]
		o.Archive, o.Refs, o.Needs = bytes.Clone(o.Archive), slices.Clone(o.Refs), slices.Clone(o.Needs)
	}
	return r
}

// roomy answers r with room behind each list, in which others stand: who appends to a list of r's writes over them.
func roomy(r api.Request) api.Request {
	texts := func(l []string) []string {
		return append(append(make([]string, 0, len(l)+4), l...), "x", "y", "z")[:len(l)]
	}
	r = copyRequest(r)
	r.Refs = texts(r.Refs)
	for i := range r.Outs {
		o := &r.Outs[i]
		o.Refs = texts(o.Refs)
		o.Needs = append(append(make([]int, 0, len(o.Needs)+4), o.Needs...), 5, 6, 7)[:len(o.Needs)]
		o.Archive = append(append(make([]byte, 0, len(o.Archive)+4), o.Archive...), 5, 6, 7)[:len(o.Archive)]
	}
	return r
}

// whole answers all that is told in r, and in the room behind it.
func whole(r api.Request) string {
	s := strconv.Itoa(int(r.Kind)) + r.Name + r.Path + string(r.Archive) + strings.Join(r.Refs[:cap(r.Refs)], ",")
	for _, o := range r.Outs {
		s += ";" + o.Name + string(o.Archive[:cap(o.Archive)]) + strings.Join(o.Refs[:cap(o.Refs)], ",")
		for _, n := range o.Needs[:cap(o.Needs)] {
			s += " " + strconv.Itoa(n)
		}
	}
	return s
}

// overwrite lays something else into all lists of r.
func overwrite(r api.Request) {
	blank(r.Archive, r.Refs)
	for i, o := range r.Outs {
		blank(o.Archive, o.Refs)
		clear(o.Needs)
		r.Outs[i] = api.Out{Name: "over"}
	}
}

func blank(p []byte, l []string) {
	for i := range p {
		p[i] ^= 0x55
	}
	for i := range l {
		l[i] = "over"
	}
}

// sharers answers some paths, and requests that refer to them: an Add, and Registers of several Outs and of one.
func sharers() ([]string, []api.Request) {
	k := kin(3)
	p, q := simple(k[2]+k[0]), simple("q")
	return k, []api.Request{
		add("a", p, k[2], k[1], k[0], k[2]),
		register(api.Out{Name: "a", Archive: p, Refs: []string{k[2], k[0]}}, api.Out{Name: "b", Archive: q, Refs: []string{k[1], k[0]}, Needs: []int{0, 0}}, api.Out{Name: "c", Archive: q, Needs: []int{1, 0}}, api.Out{Name: "c", Archive: q, Needs: []int{0, 1}}),
		register(api.Out{Name: "a", Archive: p, Refs: k[:1]}),
	}
}

func TestRowsShareNothing(t *testing.T) {
	k, requests := sharers()
	for i, r := range requests {
		want, _ := newShelf([]content{{archive: simple(k[2] + k[0]), right: true}, {archive: simple("q"), right: true}}).tellRows(all, copyRequest(r))
		handed := roomy(r)
		was := whole(handed)
		rows, e := Rows(these(k...), handed)
		if e != api.OK || whole(handed) != was {
			t.Fatal(i, e, "what was handed in is", handed)
		}
		overwrite(handed)
		if !slices.EqualFunc(rows, want, sameRow) {
			t.Error(i, "rows have what was handed in:", rows)
		}
		for j := range rows {
			rest := slices.Clone(want)
			blank(rows[j].Archive, rows[j].Refs[:cap(rows[j].Refs)])
			rest[j] = rows[j]
			if !slices.EqualFunc(rows, rest, sameRow) {
				t.Error(i, "rows have of one another:", j, rows)
			}
			rows[j].Archive, rows[j].Refs = want[j].Archive, want[j].Refs
		}
	}
}

// TestRowsAnyhow draws requests, and what is there, and holds Rows against the slow telling.
func TestRowsAnyhow(t *testing.T) {
	draw := rand.New(rand.NewSource(12))
	seen := map[api.Errno]int{}
	for range 6000 {
		s := newShelf(nil)
		p := &pool{draw, s.known, kin(5), 3}
		there := map[string]bool{}
		for _, path := range p.paths {
			there[path] = p.chance(15, 16)
		}
		has := func(path string) bool { return there[path] }
		r := p.request([]byte{api.Add, api.Register}[draw.Intn(2)])
		want, wrong := s.tellRows(has, r)
		got, e := Rows(has, copyRequest(r))
		if e != wrong || !slices.EqualFunc(got, want, sameRow) {
			t.Fatalf("%v: %v, %d, want %v, %d", r, got, e, want, wrong)
		}
		seen[e]++
	}
	for _, e := range []api.Errno{api.OK, api.ErrForm, api.ErrName, api.ErrRefs} {
		if seen[e] < 200 {
			t.Errorf("error %d is told %d times", e, seen[e])
		}
	}
}
