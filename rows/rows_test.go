package rows

import (
	"errors"
	"math"
	"math/rand"
	"slices"
	"testing"
)

// entry is a key with its value, as a test expects it.
type entry[V any] struct {
	key   string
	value V
}

// holds asks all of a table that can be asked without a change; entries are in the order of Keys.
func holds[V comparable](t *testing.T, r *Table[V], mark int, want ...entry[V]) {
	t.Helper()
	var keys []string
	for _, e := range want {
		keys = append(keys, e.key)
		if v, ok := r.Get(e.key); v != e.value || !ok {
			t.Errorf("Get(%q): %v %v, want %v", e.key, v, ok, e.value)
		}
	}
	if got := r.Keys(); !slices.Equal(got, keys) {
		t.Errorf("Keys: %q, want %q", got, keys)
	}
	if got := r.Len(); got != len(want) {
		t.Errorf("Len: %d, want %d", got, len(want))
	}
	if got := r.Mark(); got != mark {
		t.Errorf("Mark: %d, want %d", got, mark)
	}
}

func lacks[V comparable](t *testing.T, r *Table[V], keys ...string) {
	t.Helper()
	var none V
	for _, key := range keys {
		if v, ok := r.Get(key); v != none || ok {
			t.Errorf("Get(%q): %v %v, want nothing", key, v, ok)
		}
	}
}

func drops[V any](t *testing.T, r *Table[V], key string, want bool) {
	t.Helper()
	if got := r.Drop(key); got != want {
		t.Errorf("Drop(%q): %v", key, got)
	}
}

func TestExamples(t *testing.T) {
	r := New[int]()
	r.Set("a", 1)
	holds(t, r, 1, entry[int]{"a", 1})
	r.Set("a", 2)
	drops(t, r, "a", true)
	r.Undo(1)
	holds(t, r, 1, entry[int]{"a", 1})

	r = New[int]()
	r.Set("a", 1)
	mark := r.Mark()
	r.Set("a", 2)
	r.Undo(mark)
	holds(t, r, mark, entry[int]{"a", 1})
}

func TestNew(t *testing.T) {
	r := New[int]()
	holds(t, r, 0)
	lacks(t, r, "", "a")
	drops(t, r, "", false)
	drops(t, r, "a", false)
	for _, mark := range []int{math.MinInt, -1, 0, 1, math.MaxInt} {
		r.Undo(mark)
		holds(t, r, 0)
	}
	r.Done()
	holds(t, r, 0)
}

func TestGetSetDrop(t *testing.T) {
	r := New[int]()
	r.Set("b", 7)
	holds(t, r, 1, entry[int]{"b", 7})
	lacks(t, r, "", "a", "B", "b ", "bb", "b\x00")
	r.Set("a", 0)
	holds(t, r, 2, entry[int]{"a", 0}, entry[int]{"b", 7})
	r.Set("b", -8)
	holds(t, r, 3, entry[int]{"a", 0}, entry[int]{"b", -8})
	drops(t, r, "c", false)
	drops(t, r, "", false)
	holds(t, r, 3, entry[int]{"a", 0}, entry[int]{"b", -8})
	drops(t, r, "b", true)
	holds(t, r, 4, entry[int]{"a", 0})
	lacks(t, r, "b")
	drops(t, r, "b", false)
	holds(t, r, 4, entry[int]{"a", 0})
	r.Set("b", 9)
	holds(t, r, 5, entry[int]{"a", 0}, entry[int]{"b", 9})
	drops(t, r, "a", true)
	drops(t, r, "b", true)
	holds(t, r, 7)
	lacks(t, r, "a", "b")
}

func TestEmptyKey(t *testing.T) {
	r := New[int]()
	r.Set("", 3)
	holds(t, r, 1, entry[int]{"", 3})
	lacks(t, r, "\x00", " ")
	r.Set("a", 4)
	holds(t, r, 2, entry[int]{"", 3}, entry[int]{"a", 4})
	drops(t, r, "", true)
	holds(t, r, 3, entry[int]{"a", 4})
	lacks(t, r, "")
	drops(t, r, "", false)
	r.Undo(2)
	holds(t, r, 2, entry[int]{"", 3}, entry[int]{"a", 4})
	r.Undo(0)
	holds(t, r, 0)
	lacks(t, r, "", "a")
}

// TestKeysRise takes keys of one byte each, of bytes that are no text, and such as begin with one another.
func TestKeysRise(t *testing.T) {
	want := []string{"", "\x00", "\x00\x00", "\x00a", "A", "B", "Z", "a", "a\x00", "a-", "aa", "aaa", "ab", "a\x7f", "a\x80", "aé", "a\xff",
		"b", "z", "za", "\x7f", "\x80", "\x80\x80", "\xbf", "\xc3", "é", "é\x00", "ü", "\xe2\x82", "€", "\xef\xbf\xbd", "😀", "\xfe", "\xff", "\xff\x00", "\xff\xff"}
	draw := rand.New(rand.NewSource(9))
	for range 50 {
		r := New[int]()
		for _, i := range draw.Perm(len(want)) {
			r.Set(want[i], i)
		}
		if got := r.Keys(); !slices.Equal(got, want) {
			t.Fatalf("Keys: %q, want %q", got, want)
		}
		for i, key := range want {
			if v, ok := r.Get(key); v != i || !ok {
				t.Errorf("Get(%q): %d %v, want %d", key, v, ok, i)
			}
		}
	}
	r := New[byte]()
	for b := 255; b >= 0; b-- {
		r.Set(string([]byte{byte(b)}), byte(b))
	}
	for b, key := range r.Keys() {
		if len(key) != 1 || key[0] != byte(b) {
			t.Errorf("key %d: %q", b, key)
		}
	}
	if r.Len() != 256 {
		t.Errorf("Len: %d", r.Len())
	}
}

func TestKeysWrittenOver(t *testing.T) {
	r := New[int]()
	r.Set("b", 2)
	r.Set("a", 1)
	keys, again := r.Keys(), r.Keys()
	clear(keys)
	_ = append(keys[:0], "x", "y", "z")
	if !slices.Equal(again, []string{"a", "b"}) {
		t.Errorf("the other Keys: %q", again)
	}
	holds(t, r, 2, entry[int]{"a", 1}, entry[int]{"b", 2})
	keys = r.Keys()
	r.Set("0", 0)
	r.Drop("b")
	if !slices.Equal(keys, []string{"a", "b"}) {
		t.Errorf("Keys of earlier: %q", keys)
	}
	r.Undo(1)
	holds(t, r, 1, entry[int]{"b", 2})
}

// there asks one key through all that can be done to it, with values of any type.
func there[V comparable](t *testing.T, one, two V) {
	t.Helper()
	var none V
	r := New[V]()
	lacks(t, r, "k")
	r.Set("k", one)
	r.Set("n", none)
	holds(t, r, 2, entry[V]{"k", one}, entry[V]{"n", none})
	r.Set("k", two)
	drops(t, r, "n", true)
	holds(t, r, 4, entry[V]{"k", two})
	drops(t, r, "k", true)
	lacks(t, r, "k", "n")
	r.Undo(2)
	holds(t, r, 2, entry[V]{"k", one}, entry[V]{"n", none})
	r.Undo(0)
	holds(t, r, 0)
	lacks(t, r, "k", "n")
}

func TestValuesOfManyTypes(t *testing.T) {
	type pair struct {
		name string
		size int
	}
	there(t, 1, 2)
	there(t, "one", "two")
	there(t, true, false)
	there(t, 0.5, math.Inf(-1))
	there(t, pair{"a", 1}, pair{"a", 2})
	there(t, [2]byte{1}, [2]byte{0, 1})
	there(t, new(int), new(int))
	there(t, New[int](), New[int]())
	there(t, errors.New("one"), errors.New("two"))
	there[any](t, 1, "two")
	there(t, struct{}{}, struct{}{})
}

// TestValuesThatCannotBeHeldAgainstOneAnother are such as a table could not ask whether a Set changes anything.
func TestValuesThatCannotBeHeldAgainstOneAnother(t *testing.T) {
	lists := New[[]int]()
	lists.Set("a", []int{1, 2})
	lists.Set("a", []int{3})
	lists.Set("b", nil)
	if v, ok := lists.Get("a"); !slices.Equal(v, []int{3}) || !ok {
		t.Error(v, ok)
	}
	if v, ok := lists.Get("b"); v != nil || !ok {
		t.Error(v, ok)
	}
	lists.Undo(1)
	if v, ok := lists.Get("a"); !slices.Equal(v, []int{1, 2}) || !ok || lists.Mark() != 1 || lists.Len() != 1 {
		t.Error(v, ok)
	}
	if v, ok := lists.Get("b"); v != nil || ok {
		t.Error(v, ok)
	}

	calls := New[func() int]()
	calls.Set("a", func() int { return 1 })
	calls.Set("a", func() int { return 2 })
	calls.Undo(1)
	if f, ok := calls.Get("a"); !ok || f() != 1 {
		t.Error("a function", ok)
	}

	numbers := New[float64]()
	numbers.Set("a", math.NaN())
	numbers.Set("a", math.NaN())
	numbers.Set("a", 1)
	if v, ok := numbers.Get("a"); v != 1 || !ok || numbers.Mark() != 3 {
		t.Error(v, ok, numbers.Mark())
	}
	numbers.Undo(2)
	if v, ok := numbers.Get("a"); v == v || !ok {
		t.Error(v, ok)
	}

	anything := New[any]()
	anything.Set("a", []int{1})
	anything.Set("a", []int{1})
	anything.Drop("a")
	anything.Undo(1)
	if v, ok := anything.Get("a"); !ok || !slices.Equal(v.([]int), []int{1}) {
		t.Error(v, ok)
	}
}

func TestMark(t *testing.T) {
	r := New[int]()
	for i := range 5 {
		r.Set("a", 1)
		holds(t, r, i+1, entry[int]{"a", 1})
	}
	drops(t, r, "b", false)
	holds(t, r, 5, entry[int]{"a", 1})
	drops(t, r, "a", true)
	holds(t, r, 6)
	drops(t, r, "a", false)
	holds(t, r, 6)
	r.Get("a")
	r.Keys()
	r.Len()
	holds(t, r, 6)
	r.Done()
	holds(t, r, 0)
	drops(t, r, "a", false)
	holds(t, r, 0)
	r.Set("a", 1)
	holds(t, r, 1, entry[int]{"a", 1})
}

func TestUndoOfEach(t *testing.T) {
	r := New[int]()
	r.Set("a", 1)
	r.Done()
	r.Set("b", 2)
	r.Undo(0)
	holds(t, r, 0, entry[int]{"a", 1})
	lacks(t, r, "b")
	r.Set("a", 2)
	r.Undo(0)
	holds(t, r, 0, entry[int]{"a", 1})
	drops(t, r, "a", true)
	r.Undo(0)
	holds(t, r, 0, entry[int]{"a", 1})
	drops(t, r, "b", false)
	r.Undo(0)
	holds(t, r, 0, entry[int]{"a", 1})
	r.Set("a", 1)
	r.Undo(0)
	holds(t, r, 0, entry[int]{"a", 1})
	r.Set("b", 0)
	drops(t, r, "b", true)
	r.Undo(1)
	holds(t, r, 1, entry[int]{"a", 1}, entry[int]{"b", 0})
	r.Undo(0)
	holds(t, r, 0, entry[int]{"a", 1})
	lacks(t, r, "b")
}

// TestUndoTheLastOneFirst has more than one thing done to a key behind the mark.
func TestUndoTheLastOneFirst(t *testing.T) {
	r := New[int]()
	r.Set("a", 1)
	r.Set("a", 2)
	r.Set("a", 3)
	drops(t, r, "a", true)
	r.Set("b", 4)
	r.Set("a", 5)
	drops(t, r, "b", true)
	holds(t, r, 7, entry[int]{"a", 5})
	r.Undo(1)
	holds(t, r, 1, entry[int]{"a", 1})
	lacks(t, r, "b")
	r.Undo(0)
	holds(t, r, 0)
	lacks(t, r, "a", "b")
}

func TestMarksWithinOneAnother(t *testing.T) {
	r := New[int]()
	r.Set("a", 1)
	outer := r.Mark()
	r.Set("b", 2)
	drops(t, r, "a", true)
	inner := r.Mark()
	r.Set("a", 3)
	r.Set("c", 4)
	r.Undo(inner)
	holds(t, r, 3, entry[int]{"b", 2})
	lacks(t, r, "a", "c")
	r.Set("b", 5)
	holds(t, r, 4, entry[int]{"b", 5})
	r.Undo(inner)
	holds(t, r, 3, entry[int]{"b", 2})
	r.Undo(outer)
	holds(t, r, 1, entry[int]{"a", 1})
	r.Undo(inner)
	holds(t, r, 1, entry[int]{"a", 1})
	r.Undo(outer)
	holds(t, r, 1, entry[int]{"a", 1})
}

func TestMarksThatAreNone(t *testing.T) {
	r := New[int]()
	r.Set("a", 1)
	r.Set("a", 2)
	for _, mark := range []int{2, 3, 4, 100, math.MaxInt32, math.MaxInt} {
		r.Undo(mark)
		holds(t, r, 2, entry[int]{"a", 2})
	}
	for _, mark := range []int{-1, -2, -3, math.MinInt32, math.MinInt} {
		r := New[int]()
		r.Set("a", 1)
		r.Done()
		r.Set("a", 2)
		r.Set("b", 3)
		r.Undo(mark)
		holds(t, r, 0, entry[int]{"a", 1})
		lacks(t, r, "b")
		r.Undo(mark)
		holds(t, r, 0, entry[int]{"a", 1})
	}
}

func TestUndoBehindDone(t *testing.T) {
	r := New[int]()
	r.Set("a", 1)
	r.Set("b", 2)
	mark := r.Mark()
	drops(t, r, "a", true)
	r.Done()
	for _, m := range []int{-1, 0, 1, mark, mark + 1, mark + 2} {
		r.Undo(m)
		holds(t, r, 0, entry[int]{"b", 2})
	}
	r.Set("b", 3)
	r.Undo(mark)
	holds(t, r, 1, entry[int]{"b", 3})
	r.Set("a", 4)
	drops(t, r, "b", true)
	r.Undo(mark)
	holds(t, r, 2, entry[int]{"a", 4}, entry[int]{"b", 3})
	r.Undo(0)
	holds(t, r, 0, entry[int]{"b", 2})
	r.Done()
	r.Done()
	holds(t, r, 0, entry[int]{"b", 2})
}

func TestTablesAreApart(t *testing.T) {
	r, q := New[int](), New[int]()
	r.Set("a", 1)
	q.Set("a", 2)
	q.Set("b", 3)
	r.Undo(0)
	holds(t, r, 0)
	holds(t, q, 2, entry[int]{"a", 2}, entry[int]{"b", 3})
	q.Done()
	r.Set("c", 4)
	holds(t, q, 0, entry[int]{"a", 2}, entry[int]{"b", 3})
	q.Drop("a")
	holds(t, r, 1, entry[int]{"c", 4})
}

// TestValuesAreNotWritten has lists as values: what is done to a table is done to its keys alone.
func TestValuesAreNotWritten(t *testing.T) {
	one, two := []int{1, 2, 3}, []int{4, 5}
	r := New[[]int]()
	r.Set("a", one)
	r.Set("a", two)
	r.Drop("a")
	r.Set("a", one[:1])
	r.Undo(1)
	r.Done()
	r.Drop("a")
	r.Undo(0)
	if !slices.Equal(one, []int{1, 2, 3}) || !slices.Equal(two, []int{4, 5}) {
		t.Error(one, two)
	}
}

// TestNothingOldIsKept looks into the table: values that can't come back any more aren't held.
func TestNothingOldIsKept(t *testing.T) {
	r := New[*int]()
	for range 10 {
		r.Set("a", new(int))
	}
	r.Undo(4)
	for _, f := range r.journal[4:cap(r.journal)] {
		if f.value != nil || f.key != "" {
			t.Error("Undo keeps", f)
		}
	}
	r.Done()
	if cap(r.journal) > 0 {
		t.Error("Done keeps", r.journal)
	}
}

func nothing[V comparable](t *testing.T, v V) {
	t.Helper()
	var r *Table[V]
	for range 2 {
		holds(t, r, 0)
		lacks(t, r, "", "a")
		r.Set("a", v)
		r.Set("", v)
		holds(t, r, 0)
		lacks(t, r, "", "a")
		drops(t, r, "a", false)
		drops(t, r, "", false)
		for _, mark := range []int{math.MinInt, -1, 0, 1, math.MaxInt} {
			r.Undo(mark)
			holds(t, r, 0)
		}
		r.Done()
		holds(t, r, 0)
	}
}

func TestNilTable(t *testing.T) {
	nothing(t, 1)
	nothing(t, "one")
	nothing(t, true)
	nothing(t, 0.5)
	nothing(t, new(int))
	nothing(t, errors.New("one"))
	nothing(t, [2]string{"a", "b"})
	var lists *Table[[]int]
	lists.Set("a", []int{1})
	if v, ok := lists.Get("a"); v != nil || ok || lists.Drop("a") || lists.Keys() != nil {
		t.Error(v, ok)
	}
}

// deed is something that was done: a Set, or a Drop that was true.
type deed struct {
	drop  bool
	key   string
	value int
}

// slow is a table told once more: what was done before the last Done, and behind it; each answer goes through all of it.
type slow struct{ kept, since []deed }

func (s *slow) get(key string) (int, bool) {
	for _, l := range [][]deed{s.since, s.kept} {
		for i := len(l) - 1; i >= 0; i-- {
			if l[i].key == key && l[i].drop {
				return 0, false
			}
			if l[i].key == key {
				return l[i].value, true
			}
		}
	}
	return 0, false
}

func (s *slow) set(key string, v int) { s.since = append(s.since, deed{false, key, v}) }

func (s *slow) drop(key string) bool {
	_, ok := s.get(key)
	if ok {
		s.since = append(s.since, deed{true, key, 0})
	}
	return ok
}

func (s *slow) undo(mark int) {
	for len(s.since) > 0 && len(s.since) > mark {
		s.since = s.since[:len(s.since)-1]
	}
}

func (s *slow) done() {
	s.kept = append(s.kept, s.since...)
	s.since = nil
}

func (s *slow) entries(keys []string) []entry[int] {
	var l []entry[int]
	for _, key := range keys {
		if v, ok := s.get(key); ok {
			l = append(l, entry[int]{key, v})
		}
	}
	return l
}

// both does one thing to a table and to the slow one; the first letter of what says which.
func both(t *testing.T, r *Table[int], s *slow, what byte, key string, n int) {
	t.Helper()
	switch what {
	case 's':
		r.Set(key, n)
		s.set(key, n)
	case 'd':
		drops(t, r, key, s.drop(key))
	case 'u':
		r.Undo(n)
		s.undo(n)
	case 'e':
		r.Done()
		s.done()
	}
}

// held asks for all keys; they are in the order of Keys.
func held(t *testing.T, r *Table[int], s *slow, keys []string) {
	t.Helper()
	holds(t, r, len(s.since), s.entries(keys)...)
	for _, key := range keys {
		if _, ok := s.get(key); !ok {
			lacks(t, r, key)
		}
	}
}

// TestAllShortWays goes through every row of six things done to two keys.
func TestAllShortWays(t *testing.T) {
	things := []struct {
		what byte
		key  string
		n    int
	}{{'s', "a", 1}, {'s', "a", 2}, {'s', "b", 3}, {'d', "a", 0}, {'d', "b", 0}, {'u', "", -1}, {'u', "", 1}, {'u', "", 2}, {'e', "", 0}}
	keys := []string{"a", "b"}
	const long = 6
	all := 1
	for range long {
		all *= len(things)
	}
	for way := 0; way < all && !t.Failed(); way++ {
		r, s := New[int](), &slow{}
		rest := way
		for range long {
			x := things[rest%len(things)]
			rest /= len(things)
			both(t, r, s, x.what, x.key, x.n)
		}
		held(t, r, s, keys)
		r.Undo(0)
		s.undo(0)
		held(t, r, s, keys)
		if t.Failed() {
			t.Logf("way %d", way)
		}
	}
}

// TestLongWays draws what is done, and looks at all of it behind each thing.
func TestLongWays(t *testing.T) {
	keys := []string{"", "\x00", "a", "aa", "ab", "b", "\x7f", "\x80", "é", "\xff"}
	for seed := range int64(60) {
		draw := rand.New(rand.NewSource(seed))
		r, s := New[int](), &slow{}
		for i := range 300 {
			what := "ssssssdddduue"[draw.Intn(13)]
			n := i
			if what == 'u' {
				n = len(s.since) + 2 - draw.Intn(12)
			}
			both(t, r, s, what, keys[draw.Intn(len(keys))], n)
			held(t, r, s, keys)
			if t.Failed() {
				t.Fatalf("seed %d, thing %d: %c %d", seed, i, what, n)
			}
		}
	}
}

// TestManyKeys has more of them than a small list would do for, and undoes all at once.
func TestManyKeys(t *testing.T) {
	const many = 20000
	r := New[int]()
	key := func(i int) string { return string([]byte{byte(i >> 16), byte(i >> 8), byte(i)}) }
	for i := range many {
		r.Set(key(i*7%many), i)
	}
	r.Done()
	for i := range many {
		if i%2 == 0 {
			drops(t, r, key(i), true)
		} else {
			r.Set(key(i), -i)
		}
	}
	if r.Len() != many/2 || r.Mark() != many {
		t.Errorf("Len %d, Mark %d", r.Len(), r.Mark())
	}
	r.Undo(0)
	if l := r.Keys(); len(l) != many || !slices.IsSorted(l) || r.Mark() != 0 {
		t.Errorf("Keys: %d", len(l))
	}
	for i := range many {
		if v, ok := r.Get(key(i * 7 % many)); v != i || !ok {
			t.Fatalf("Get of %d: %d %v", i, v, ok)
		}
	}
}
