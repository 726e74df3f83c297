package scan

import (
	"bytes"
	"math/rand"
	"slices"
	"strings"
	"testing"

	"godown/name"
)

const (
	zeros = "00000000000000000000000000000000"
	ones  = "11111111111111111111111111111111"
	many  = "0123456789abcdfghijklmnpqrsvwxyz"
	// pairs are letters that are their own again two places on.
	pairs = "01010101010101010101010101010101"
)

// wantSpots is P8.1 told once more, letter by letter.
func wantSpots(p []byte, path string) []int {
	var spots []int
	if !name.Is(path) {
		return spots
	}
	for at := range p {
		same := 0
		for same < 32 && at+same < len(p) && p[at+same] == path[same] {
			same++
		}
		if same == 32 {
			spots = append(spots, at)
		}
	}
	return spots
}

// wantFind is the same for Find: it puts each path in where it belongs.
func wantFind(p []byte, paths []string) []string {
	var found []string
	for _, path := range paths {
		at, is := slices.BinarySearch(found, path)
		if !is && len(wantSpots(p, path)) > 0 {
			found = slices.Insert(found, at, path)
		}
	}
	return found
}

func check(t *testing.T, p, path string, want ...int) {
	t.Helper()
	if got := Spots([]byte(p), path); !slices.Equal(got, want) {
		t.Errorf("Spots(%q, %q): %v, want %v", p, path, got, want)
	}
	if got := Find([]byte(p), []string{path}); (len(got) == 1 && got[0] == path) != (len(want) > 0) || len(got) > 1 {
		t.Errorf("Find(%q, %q): %q", p, path, got)
	}
}

func find(t *testing.T, p string, paths []string, want ...string) {
	t.Helper()
	if got := Find([]byte(p), paths); !slices.Equal(got, want) {
		t.Errorf("Find(%q, %q): %q, want %q", p, paths, got, want)
	}
}

// counted answers the numbers from first on to the last one, step by step.
func counted(first, last, step int) []int {
	var l []int
	for i := first; i <= last; i += step {
		l = append(l, i)
	}
	return l
}

func TestExample(t *testing.T) {
	for _, p := range [][]byte{nil, {}} {
		for _, paths := range [][]string{nil, {}, {zeros + "-a"}, {many + "-lib", zeros + "-a"}, {"", "no"}} {
			if got := Find(p, paths); len(got) != 0 {
				t.Errorf("Find of no bytes in %q: %q", paths, got)
			}
		}
	}
	check(t, "", many+"-lib")
}

func TestSpots(t *testing.T) {
	path := many + "-lib"
	check(t, many, path, 0)
	check(t, path, path, 0)
	check(t, many+"...", path, 0)
	check(t, "x"+many, path, 1)
	check(t, "..."+many, path, 3)
	check(t, "..."+many+"...", path, 3)
	check(t, "/store/"+path+"/bin", path, 7)
	check(t, many+many, path, 0, 32)
	check(t, many+"-"+many, path, 0, 33)
	check(t, "."+many+".."+many+"...", path, 1, 35)
	check(t, many[:5]+many, path, 5)
	check(t, many+many[:31], path, 0)
	check(t, many[1:]+many+many[:31], path, 31)
	check(t, "0"+many+"z", path, 1)
	check(t, "\x00\xff"+many+"\xff\x00é"+many, path, 2, 38)
}

func TestSpotsThatReachIntoOneAnother(t *testing.T) {
	for n := range 100 {
		check(t, strings.Repeat("0", n), zeros+"-a", counted(0, n-32, 1)...)
		check(t, "x"+strings.Repeat("0", n)+"x", zeros+"-a", counted(1, n-31, 1)...)
		check(t, strings.Repeat("01", n), pairs+"-a", counted(0, 2*n-32, 2)...)
		check(t, "1"+strings.Repeat("01", n)+"0", pairs+"-a", counted(1, 2*n-30, 2)...)
	}
	check(t, zeros+"1"+zeros, zeros+"-a", 0, 33)
}

// TestAllButOne leaves out, and changes, each of the letters.
func TestAllButOne(t *testing.T) {
	path := many + "-lib"
	for n := range 32 {
		check(t, many[:n], path)
		check(t, many[n+1:], path)
		check(t, many[:n]+many[n+1:], path)
		check(t, many[:n]+"."+many[n+1:], path)
		check(t, many[:n]+"."+many[n:], path, counted(1, 1-n, 1)...)
		check(t, many[:n]+strings.ToUpper(many[n:n+1])+many[n+1:], path, counted(0, min(0, 9-n), 1)...)
		check(t, "x"+many[:n]+"\n"+many[n+1:]+"-lib", path)
	}
	check(t, many[:31]+"-lib", path)
	check(t, "-lib", path)
	check(t, "lib", path)
}

func TestWhatIsNoPath(t *testing.T) {
	for _, s := range []string{
		"", "-", "no", "a-b", "-lib", many, many + "-", many[:31] + "-lib", many + "0-lib", many + "_lib", many + "-.lib", many + "-LIB",
		many + "-" + strings.Repeat("a", 41), "e" + many[1:] + "-lib", " " + many + "-lib", many + "-lib ", many + "-li/b", strings.ToUpper(many) + "-lib",
	} {
		for _, p := range []string{"", ".", s, s + s, "x" + s + "x", "e" + many[1:] + strings.ToUpper(many), many + "-lib"} {
			check(t, p, s)
			find(t, p, []string{s, s, ""})
		}
		find(t, many+s, []string{s, many + "-lib", s}, many+"-lib")
	}
}

// TestNamesDontCount: the letters alone are looked for.
func TestNamesDontCount(t *testing.T) {
	for _, p := range []string{many, many + "-lib", many + "-other", many + "lib", "..." + many} {
		at := strings.Index(p, many)
		for _, s := range []string{"lib", "other", "a", "-", strings.Repeat("z", 40)} {
			check(t, p, many+"-"+s, at)
		}
	}
	find(t, ".."+many+"-lib", []string{many + "-lib", many + "-b", many + "-a", zeros + "-lib", many + "-lib", many + "-a.b"},
		many+"-a", many+"-a.b", many+"-b", many+"-lib")
}

func TestFind(t *testing.T) {
	a, b, c, d := zeros+"-z", many+"-m", ones+"-a", strings.Repeat("z", 32)+"-a"
	text := "x" + ones + "/" + zeros + "-other" + zeros + "," + many[:31]
	find(t, text, nil)
	find(t, text, []string{})
	find(t, text, []string{d})
	find(t, text, []string{b})
	find(t, text, []string{a}, a)
	find(t, text, []string{a, c}, a, c)
	find(t, text, []string{c, a}, a, c)
	find(t, text, []string{c, "no", d, c, a, "", b, a, c}, a, c)
	find(t, text, []string{a, a, a}, a)
	find(t, text+many, []string{d, c, b, a, b, c, d}, a, b, c)
	find(t, text+many+d, []string{d, c, b, a}, a, b, c, d)
}

// TestFindAndSpotsAnyhow holds both against what P8.1 says, with bytes in which letters come often.
func TestFindAndSpotsAnyhow(t *testing.T) {
	r := rand.New(rand.NewSource(6))
	parts := []string{zeros, ones, many, pairs, zeros[:31], many[:31], many[1:], "0", "1", "z", "-", ".", "-a", "\x00", "\xff"}
	for range 2000 {
		var p []byte
		for range r.Intn(12) {
			p = append(p, parts[r.Intn(len(parts))]...)
		}
		var paths []string
		for range r.Intn(8) {
			paths = append(paths, parts[r.Intn(5)]+[]string{"-a", "-b", "", "-", "_a"}[r.Intn(5)])
		}
		if got, want := Find(p, paths), wantFind(p, paths); !slices.Equal(got, want) {
			t.Fatalf("Find(%q, %q): %q, want %q", p, paths, got, want)
		}
		for _, path := range paths {
			if got, want := Spots(p, path), wantSpots(p, path); !slices.Equal(got, want) {
				t.Fatalf("Spots(%q, %q): %v, want %v", p, path, got, want)
			}
		}
	}
}

func TestOfManyBytes(t *testing.T) {
	p := bytes.Repeat([]byte("0"), 1<<20)
	if got := Spots(p, zeros+"-a"); !slices.Equal(got, counted(0, 1<<20-32, 1)) {
		t.Error("spots:", len(got))
	}
	copy(p[1<<20-32:], many)
	if got := Find(p, []string{ones + "-a", many + "-a", pairs + "-a"}); !slices.Equal(got, []string{many + "-a"}) {
		t.Errorf("%q", got)
	}
}

func TestNothingIsShared(t *testing.T) {
	all := []byte("0.." + many + zeros + ones + ".0")
	p := all[3 : len(all)-2]
	allPaths := []string{"around", zeros + "-b", many + "-c", "no", zeros + "-b", zeros + "-a", pairs + "-d", "around"}
	paths := allPaths[1:7]
	keptBytes, keptPaths := bytes.Clone(all), slices.Clone(allPaths)
	wantPaths, wantPlaces := []string{zeros + "-a", zeros + "-b", many + "-c"}, []int{32}
	for range 2 {
		found, spots := Find(p, paths), Spots(p, zeros+"-b")
		if !slices.Equal(found, wantPaths) || !slices.Equal(spots, wantPlaces) {
			t.Fatalf("%q, %v", found, spots)
		}
		if !bytes.Equal(all, keptBytes) || !slices.Equal(allPaths, keptPaths) {
			t.Fatal("what was handed in, or what lies around it, was written into")
		}
		clear(found[:cap(found)])
		clear(spots[:cap(spots)])
		if !bytes.Equal(all, keptBytes) || !slices.Equal(allPaths, keptPaths) {
			t.Fatal("what was answered reaches into what was handed in")
		}
	}
	found, spots := Find(p, paths), Spots(p, zeros+"-b")
	clear(all)
	clear(allPaths)
	if !slices.Equal(found, wantPaths) || !slices.Equal(spots, wantPlaces) {
		t.Errorf("what was answered changed with what was handed in: %q, %v", found, spots)
	}
}
