package name

import (
	"bytes"
	"crypto/sha256"
	"encoding/base32"
	"encoding/binary"
	"slices"
	"strconv"
	"strings"
	"testing"

	"godown/api"
	"godown/base"
	"godown/hash"
	"godown/wire"
)

const (
	small = "abcdefghijklmnopqrstuvwxyz"
	zeros = "00000000000000000000000000000000"
	// layer3 are layer 3's letters.
	layer3 = "0123456789abcdfghijklmnpqrsvwxyz"
)

// wantPath is P7.1 told once more, with no layer of the program.
func wantPath(name string, archive []byte, refs []string) string {
	text := func(p []byte, s string) []byte {
		return append(binary.BigEndian.AppendUint16(p, uint16(len(s))), s...)
	}
	sum := sha256.Sum256(archive)
	laid := append(text(nil, string(sum[:])), byte(len(refs)))
	for _, ref := range refs {
		laid = text(laid, ref)
	}
	sum = sha256.Sum256(text(laid, name))
	for i := 20; i < 32; i++ {
		sum[i-20] ^= sum[i]
	}
	letters := base32.NewEncoding(layer3).WithPadding(base32.NoPadding)
	return letters.EncodeToString(sum[:20]) + "-" + name
}

// layersPath is the path as layers 2, 3 and 4 tell it.
func layersPath(name string, archive []byte, refs []string) string {
	w := &wire.Writer{}
	w.Text(string(hash.Sum(archive)))
	w.Texts(refs)
	w.Text(name)
	return base.Text(hash.Short(w.Bytes())) + "-" + name
}

// somePaths answers n paths that rise.
func somePaths(n int) []string {
	var l []string
	for i := range n {
		l = append(l, wantPath("p"+strconv.Itoa(i), nil, nil))
	}
	slices.Sort(l)
	return l
}

func made(t *testing.T, name string, archive []byte, refs []string) string {
	t.Helper()
	path, e := Make(name, archive, refs)
	if e != api.OK {
		t.Fatalf("Make(%q, %d bytes, %d refs): %d", name, len(archive), len(refs), e)
	}
	return path
}

func refused(t *testing.T, want api.Errno, name string, archive []byte, refs []string) {
	t.Helper()
	if path, e := Make(name, archive, refs); path != "" || e != want {
		t.Errorf("Make(%q, %q, %q): %q, %d, want %d", name, archive, refs, path, e, want)
	}
	if Fits(api.Row{Name: name, Archive: archive, Refs: refs}) {
		t.Errorf("a row of %q, %q, %q and no path fits", name, archive, refs)
	}
	if len(refs) < 256 && Fits(api.Row{Path: wantPath(name, archive, refs), Name: name, Archive: archive, Refs: refs}) {
		t.Errorf("a row of %q, %q, %q fits", name, archive, refs)
	}
}

func isNone(t *testing.T, path string) {
	t.Helper()
	if a, b, ok := Split(path); a != "" || b != "" || ok {
		t.Errorf("Split(%q): %q, %q, %t", path, a, b, ok)
	}
	if Is(path) {
		t.Errorf("Is(%q)", path)
	}
	refused(t, api.ErrArg, "x", nil, []string{path})
}

func isOne(t *testing.T, letters, name string) {
	t.Helper()
	path := letters + "-" + name
	if a, b, ok := Split(path); a != letters || b != name || !ok {
		t.Errorf("Split(%q): %q, %q, %t", path, a, b, ok)
	}
	if !Is(path) {
		t.Errorf("Is(%q) isn't told", path)
	}
	if got, e := Make("x", nil, []string{path}); got != wantPath("x", nil, []string{path}) || e != api.OK {
		t.Errorf("Make with the ref %q: %q, %d", path, got, e)
	}
}

// may tells of a byte whether it may stand in a name.
func may(b byte) bool {
	return 'a' <= b && b <= 'z' || '0' <= b && b <= '9' || b == '+' || b == '-' || b == '.' || b == '_'
}

// anyNames holds texts with what P7.1 says of them as names.
func anyNames() map[string]bool {
	m := map[string]bool{
		"": false, ".": false, "..": false, ".a": false, "..a": false, ".-": false,
		"a": true, "a.": true, "a..": true, "-": true, "--": true, "+": true, "_": true, "_.": true, "-.": true, "0": true, "9": true,
		"gcc-4.1+x_y": true, small: true, "0123456789": true, "+-._": true,
		"A": false, "aB": false, "a b": false, " a": false, "a ": false, "a/b": false, "/": false, "a\x00": false, "\x00": false, "a\n": false,
		"é": false, "aé": false, "ａ": false, "a\xff": false, "\xff\xfe": false, "a,b": false, "a:b": false, "a*": false, "a`": false, "a{": false,
	}
	for n := range 100 {
		m[strings.Repeat("x", n)] = 1 <= n && n <= 40
		m["."+strings.Repeat("x", n)] = false
	}
	m[strings.Repeat("x", 39)+"."] = true
	m[strings.Repeat("x", 40)+"."] = false
	m[strings.Repeat("é", 20)] = false
	m[strings.Repeat("x", 1<<20)] = false
	for b := range 256 {
		one := string([]byte{byte(b)})
		m[one] = may(byte(b)) && b != '.'
		for place := range 40 {
			m[strings.Repeat("m", place)+one+strings.Repeat("m", 39-place)] = may(byte(b)) && (b != '.' || place > 0)
		}
		m["m"+one] = may(byte(b))
	}
	return m
}

func TestDigits(t *testing.T) {
	if Digits != 32 {
		t.Error(Digits)
	}
}

func TestRight(t *testing.T) {
	for s, want := range anyNames() {
		if Right(s) != want {
			t.Errorf("Right(%q): %t", s, !want)
		}
	}
}

// TestNamesOfTwoBytes goes through all of them.
func TestNamesOfTwoBytes(t *testing.T) {
	for a := range 256 {
		for b := range 256 {
			s := string([]byte{byte(a), byte(b)})
			if want := may(byte(a)) && a != '.' && may(byte(b)); Right(s) != want {
				t.Errorf("Right(%q): %t", s, !want)
			}
		}
	}
}

func TestNamesInMakeAndSplit(t *testing.T) {
	for s, right := range anyNames() {
		if right {
			isOne(t, zeros, s)
			if path := made(t, s, []byte("x"), nil); path != wantPath(s, []byte("x"), nil) {
				t.Errorf("Make(%q): %q", s, path)
			}
			continue
		}
		isNone(t, zeros+"-"+s)
		if len(s) < 1<<16 {
			refused(t, api.ErrName, s, []byte("x"), nil)
		}
	}
	if path, e := Make(strings.Repeat("x", 1<<20), nil, nil); path != "" || e != api.ErrName {
		t.Error("of a long name:", len(path), e)
	}
}

func TestMakeOfKnownBytes(t *testing.T) {
	for _, c := range []struct {
		name, archive string
		refs          []string
	}{
		{"lib", "x", nil},
		{"lib", "", nil},
		{"a", "x", nil},
		{"lib", "x", somePaths(1)},
		{"lib", "x", somePaths(2)},
		{"lib", "x", []string{zeros + "-a", zeros + "-a.", zeros + "-aa", zeros + "-b"}},
		{strings.Repeat("z", 40), strings.Repeat("x", 100000), somePaths(254)},
		{strings.Repeat("z", 40), strings.Repeat("\x00", 65536), somePaths(255)},
	} {
		got := made(t, c.name, []byte(c.archive), c.refs)
		if want := wantPath(c.name, []byte(c.archive), c.refs); got != want {
			t.Errorf("Make(%q, %d bytes, %d refs): %q, want %q", c.name, len(c.archive), len(c.refs), got, want)
		}
		if want := layersPath(c.name, []byte(c.archive), c.refs); got != want {
			t.Errorf("Make(%q, %d bytes, %d refs): %q, the layers tell %q", c.name, len(c.archive), len(c.refs), got, want)
		}
		if !Is(got) {
			t.Errorf("Make(%q, %d bytes, %d refs) is no path: %q", c.name, len(c.archive), len(c.refs), got)
		}
		if a, b, ok := Split(got); len(a) != 32 || b != c.name || !ok || a+"-"+b != got {
			t.Errorf("Split(%q): %q, %q, %t", got, a, b, ok)
		}
	}
}

func TestMakeOfArchivesOfAnyLength(t *testing.T) {
	for n := range 300 {
		archive := bytes.Repeat([]byte{byte(n)}, n)
		if got := made(t, "n", archive, nil); got != wantPath("n", archive, nil) {
			t.Errorf("of %d bytes: %q", n, got)
		}
	}
	if made(t, "n", nil, nil) != made(t, "n", []byte{}, []string{}) {
		t.Error("nothing and nil aren't the same")
	}
}

func TestMakeErrors(t *testing.T) {
	l := somePaths(257)
	with := func(place int, ref string) []string {
		refs := slices.Clone(l[:255])
		refs[place] = ref
		return refs
	}
	for _, refs := range [][]string{
		l[:256], l, make([]string, 256), make([]string, 100000),
		{l[1], l[0]}, {l[0], l[2], l[1]}, {l[1], l[0], l[2]}, {l[2], l[1], l[0]},
		{l[0], l[0]}, {l[0], l[1], l[1]}, {l[0], l[0], l[1]}, {l[0], l[1], l[0]},
		{zeros + "-b", zeros + "-a"}, {zeros + "-aa", zeros + "-a"}, {zeros + "-a", zeros + "-a"},
		{""}, {"no"}, {"a-b"}, {l[0], ""}, {"", l[0]}, {l[0], l[0] + "!"}, {l[0][:32]}, {l[0][:33]},
		with(0, ""), with(254, "zzzz"), with(100, l[100]+"!"), with(100, l[99]), with(100, l[101]), with(254, l[253]), with(0, l[1]),
	} {
		refused(t, api.ErrArg, "x", []byte("y"), refs)
		refused(t, api.ErrName, "", []byte("y"), refs)
		refused(t, api.ErrName, ".x", []byte("y"), refs)
		refused(t, api.ErrName, strings.Repeat("x", 41), nil, refs)
	}
	refused(t, api.ErrName, "X", nil, l[:255])
	refused(t, api.ErrName, "X", nil, nil)
}

// TestMakeTellsAllApart changes each thing that a path is made of.
func TestMakeTellsAllApart(t *testing.T) {
	l := somePaths(3)
	seen := map[string]int{}
	for i, c := range []struct {
		name, archive string
		refs          []string
	}{
		{"a", "x", nil}, {"b", "x", nil}, {"a", "y", nil}, {"a", "", nil}, {"a", "xx", nil},
		{"a", "x", l[:1]}, {"a", "x", l[1:2]}, {"a", "x", l[:2]}, {"a", "x", l}, {"a", "x", []string{l[0], l[2]}},
		{"a", "x", []string{zeros + "-a"}}, {"a", "x", []string{zeros + "-b"}},
	} {
		letters, _, _ := Split(made(t, c.name, []byte(c.archive), c.refs))
		if other, is := seen[letters]; is {
			t.Errorf("%d and %d have the letters %s", i, other, letters)
		}
		seen[letters] = i
	}
}

func TestSplit(t *testing.T) {
	isNone(t, "a-b")
	for _, letters := range []string{zeros, strings.Repeat("z", 32), layer3, "zyxwvsrqpnmlkjihgfdcba9876543210"} {
		for _, s := range []string{"a", "-", "-a", "a-b", "--", "a.b", strings.Repeat("-", 40), letters, "x-" + letters} {
			isOne(t, letters, s)
		}
		for _, s := range []string{
			letters, letters + "-", "-" + letters, "-a", letters + "a", letters + "_a", letters + ".a", letters + "+a", letters + "/a", letters + "\xada",
			letters[:31] + "-a", letters + "0-a", letters[:31] + "-", letters[:30] + "-aa", letters + "00000000-a", letters[:24] + "-abcdefgh",
			letters[:31] + "--a", letters + "-.a", letters + "-A", letters + "- a", " " + letters + "-a", letters + "-a ", letters + "-a\n",
			letters + "-" + strings.Repeat("a", 41), letters[:16] + "-" + letters[16:] + "-a", strings.ToUpper(letters)[:31] + "Z-a",
		} {
			isNone(t, s)
		}
		path := letters + "-abc"
		for n := range 34 {
			isNone(t, path[:n])
			isNone(t, path[n+1:])
		}
	}
	for _, s := range []string{"", "-", "--", zeros + zeros, strings.Repeat("-", 33), strings.Repeat("-", 34), strings.Repeat("a", 73)} {
		isNone(t, s)
	}
	isNone(t, strings.Repeat("é", 16)+"-a")
}

// TestEachByteOfAPath puts every byte at every place of a path.
func TestEachByteOfAPath(t *testing.T) {
	for b := range 256 {
		one := string([]byte{byte(b)})
		for place := range 32 {
			letters := zeros[:place] + one + zeros[place+1:]
			if strings.Contains(layer3, one) {
				isOne(t, letters, "lib")
			} else {
				isNone(t, letters+"-lib")
			}
		}
		if b != '-' {
			isNone(t, zeros+one+"lib")
		}
	}
}

func TestFits(t *testing.T) {
	l := somePaths(4)
	archive := []byte("an archive")
	for n := range 4 {
		path := wantPath("lib", archive, l[:n])
		right := api.Row{Path: path, Name: "lib", Archive: archive, Refs: l[:n]}
		if !Fits(right) {
			t.Errorf("%v doesn't fit", right)
		}
		for i, change := range []func(r *api.Row){
			func(r *api.Row) { r.Path = "" },
			func(r *api.Row) { r.Path = "no" },
			func(r *api.Row) { r.Path = path + "x" },
			func(r *api.Row) { r.Path = path[:32] + "-bil" },
			func(r *api.Row) {
				r.Path = path[:31] + string(layer3[(strings.IndexByte(layer3, path[31])+1)%32]) + "-lib"
			},
			func(r *api.Row) { r.Path = path[:32] },
			func(r *api.Row) { r.Path = wantPath("lib", archive, l[:n+1]) },
			func(r *api.Row) { r.Name = "" },
			func(r *api.Row) { r.Name = "li" },
			func(r *api.Row) { r.Name = ".lib" },
			func(r *api.Row) { r.Name, r.Path = "bil", path[:32]+"-bil" },
			func(r *api.Row) { r.Archive = nil },
			func(r *api.Row) { r.Archive = []byte("an archivf") },
			func(r *api.Row) { r.Archive = []byte("an archive ") },
			func(r *api.Row) { r.Refs = l[:n+1] },
			func(r *api.Row) { r.Refs = l[1:] },
			func(r *api.Row) { r.Refs = append(slices.Clone(l[:n]), "no") },
			func(r *api.Row) { r.Refs = append(slices.Clone(l[:n]), "") },
			func(r *api.Row) { r.Refs = append(slices.Clone(l[:n]), l[0]) },
			func(r *api.Row) { *r = api.Row{} },
		} {
			r := right
			change(&r)
			if Fits(r) {
				t.Errorf("with %d refs, the change %d fits", n, i)
			}
		}
	}
	refs := slices.Clone(l)
	slices.Reverse(refs)
	if Fits(api.Row{Path: wantPath("lib", archive, refs), Name: "lib", Archive: archive, Refs: refs}) {
		t.Error("refs that fall fit")
	}
	if !Fits(api.Row{Path: wantPath("a", nil, nil), Name: "a"}) {
		t.Error("no archive doesn't fit")
	}
}

func TestNothingIsWrittenInto(t *testing.T) {
	allBytes, allRefs := []byte("..archive.."), somePaths(6)
	keptBytes, keptRefs := bytes.Clone(allBytes), slices.Clone(allRefs)
	archive, refs := allBytes[2:9], allRefs[1:4]
	path := made(t, "lib", archive, refs)
	if !Fits(api.Row{Path: path, Name: "lib", Archive: archive, Refs: refs}) {
		t.Error("it doesn't fit")
	}
	Make("lib", archive, []string{"no"})
	if !bytes.Equal(allBytes, keptBytes) || !slices.Equal(allRefs, keptRefs) {
		t.Error("what was handed in, or what lies around it, was written into")
	}
	clear(allBytes)
	clear(allRefs)
	if want := wantPath("lib", keptBytes[2:9], keptRefs[1:4]); path != want {
		t.Errorf("the path changed with what it was made of: %q, want %q", path, want)
	}
}
