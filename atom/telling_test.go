package atom

import (
	"crypto/sha256"
	"encoding/base32"
	"encoding/binary"
	"math"
	"slices"
	"strings"

	"godown/api"
)

// What the chapter says, told once more: slowly, and without the layers below. The tests hold the package against it.

// content is an archive of which it is known whether it is one, and of what. What isn't one has the other fields of no tree.
type content struct {
	archive []byte
	right   bool
	size    int
	most    float64
}

func text(s string) string { return string(binary.BigEndian.AppendUint16(nil, uint16(len(s)))) + s }

// laid answers a node's bytes, be it right or not.
func laid(n api.Node) string {
	s := string([]byte{n.Kind})
	switch n.Kind {
	case 1:
		s += string([]byte{byte(len(n.Kids))})
		for i, kid := range n.Kids {
			s += text(n.Names[i]) + laid(kid)
		}
	case 2:
		bits := math.Float64bits(n.Stamp)
		if n.Stamp != n.Stamp {
			bits = 0x7ff8000000000001
		}
		if n.Stamp == 0 {
			bits = 0
		}
		run := "\x00"
		if n.Run {
			run = "\x01"
		}
		s += run + string(binary.BigEndian.AppendUint64(nil, bits)) + text(string(n.Data))
	case 3:
		s += text(n.Target)
	}
	return s
}

// of answers the archive of a tree that is right.
func of(n api.Node) content {
	size, most := weigh(n)
	return content{[]byte(text("godown1") + laid(n)), true, size, most}
}

// weigh answers how many bytes of Data there are, and the greatest Stamp.
func weigh(n api.Node) (int, float64) {
	size, most := len(n.Data), math.Inf(-1)
	if n.Kind == 2 {
		most = n.Stamp
	}
	for _, kid := range n.Kids {
		more, stamp := weigh(kid)
		size += more
		if stamp != stamp || stamp > most {
			most = stamp
		}
	}
	switch {
	case most != most:
		most = math.Float64frombits(0x7ff8000000000001)
	case most == 0:
		most = 0 // that of a nought with a sign, too
	}
	return size, most
}

// bad answers bytes that are no archive.
func bad(p string) content { return content{archive: []byte(p), most: math.Inf(-1)} }

func file(data string, stamp float64) api.Node {
	return api.Node{Kind: 2, Data: []byte(data), Stamp: stamp}
}

func link(target string) api.Node { return api.Node{Kind: 3, Target: target} }

func dir(names string, kids ...api.Node) api.Node {
	return api.Node{Kind: 1, Names: strings.Fields(names), Kids: kids}
}

// simple answers the bytes of a file's archive.
func simple(data string) []byte { return of(file(data, 0)).archive }

// pathOf answers the path of a row; the refs rise.
func pathOf(name string, archive []byte, refs ...string) string {
	sum := sha256.Sum256(archive)
	laid := text(string(sum[:])) + string([]byte{byte(len(refs))})
	for _, ref := range refs {
		laid += text(ref)
	}
	sum = sha256.Sum256([]byte(laid + text(name)))
	for i := 20; i < 32; i++ {
		sum[i-20] ^= sum[i]
	}
	letters := base32.NewEncoding(ofPaths).WithPadding(base32.NoPadding)
	return letters.EncodeToString(sum[:20]) + "-" + name
}

const (
	ofNames = "abcdefghijklmnopqrstuvwxyz0123456789+-._"
	ofPaths = "0123456789abcdfghijklmnpqrsvwxyz"
)

// only tells whether all bytes of s are among some.
func only(s, some string) bool {
	for i := range len(s) {
		if !strings.Contains(some, s[i:i+1]) {
			return false
		}
	}
	return true
}

func rightName(s string) bool {
	return len(s) >= 1 && len(s) <= 40 && s[0] != '.' && only(s, ofNames)
}

func rightPath(s string) bool {
	return len(s) > 33 && only(s[:32], ofPaths) && s[32] == '-' && rightName(s[33:])
}

// shelf is a store that is told slowly; known are the archives that may come.
type shelf struct {
	known map[string]content
	rows  map[string]api.Row
	roots map[string]bool
}

func newShelf(known []content) *shelf {
	s := &shelf{map[string]content{}, map[string]api.Row{}, map[string]bool{}}
	for _, c := range known {
		s.known[string(c.archive)] = c
	}
	return s
}

func (s *shelf) has(path string) bool {
	_, there := s.rows[path]
	return there
}

func sorted(l []string) []string {
	return slices.Compact(slices.Sorted(slices.Values(l)))
}

// tellRows answers what Rows does, of a store that has these paths.
func (s *shelf) tellRows(has func(path string) bool, r api.Request) ([]api.Row, api.Errno) {
	outs := r.Outs
	if r.Kind == 1 {
		out := api.Out{Name: r.Name, Archive: r.Archive}
		for _, ref := range r.Refs {
			if rightPath(ref) && strings.Contains(string(r.Archive), ref[:32]) {
				out.Refs = append(out.Refs, ref)
			}
		}
		outs = []api.Out{out}
	} else if r.Kind != 7 {
		return nil, api.ErrArg
	}
	var rows []api.Row
	for i, out := range outs {
		var needed []string
		for _, n := range out.Needs {
			if n >= 0 && n < i {
				needed = append(needed, rows[n].Path)
			}
		}
		if !s.known[string(out.Archive)].right {
			return nil, api.ErrForm
		}
		if !rightName(out.Name) {
			return nil, api.ErrName
		}
		for _, ref := range out.Refs {
			if !slices.Contains(needed, ref) && !(rightPath(ref) && has(ref)) {
				return nil, api.ErrRefs
			}
		}
		refs := sorted(append(needed, out.Refs...))
		rows = append(rows, api.Row{Path: pathOf(out.Name, out.Archive, refs...), Name: out.Name, Archive: out.Archive, Refs: refs})
	}
	return rows, api.OK
}

// tellPut puts all rows, or none.
func (s *shelf) tellPut(rows []api.Row) api.Errno {
	var came []string
	for _, row := range rows {
		if s.has(row.Path) {
			continue
		}
		if len(s.rows) == 64 {
			for _, path := range came {
				delete(s.rows, path)
			}
			return api.ErrLarge
		}
		s.rows[row.Path] = row
		came = append(came, row.Path)
	}
	return api.OK
}

func (s *shelf) referrers(path string) []string {
	var l []string
	for p, row := range s.rows {
		if slices.Contains(row.Refs, path) {
			l = append(l, p)
		}
	}
	return sorted(l)
}

// closure goes on till nothing more is found.
func (s *shelf) closure(paths ...string) []string {
	l := sorted(paths)
	for {
		more := slices.Clone(l)
		for _, path := range l {
			more = append(more, s.rows[path].Refs...)
		}
		if more = sorted(more); len(more) == len(l) {
			return l
		}
		l = more
	}
}

func (s *shelf) sweep() []string {
	var gone []string
	live := s.closure(s.rootPaths()...)
	for path := range s.rows {
		if !slices.Contains(live, path) {
			gone = append(gone, path)
		}
	}
	for _, path := range gone {
		delete(s.rows, path)
	}
	return sorted(gone)
}

func (s *shelf) paths() []string {
	var l []string
	for path := range s.rows {
		l = append(l, path)
	}
	return sorted(l)
}

func (s *shelf) rootPaths() []string {
	var l []string
	for path := range s.roots {
		l = append(l, path)
	}
	return sorted(l)
}

// tellChange is Root, Unroot or Delete.
func (s *shelf) tellChange(kind byte, path string) api.Errno {
	switch {
	case kind == 9 && !s.roots[path], kind != 9 && !s.has(path):
		return api.ErrNone
	case kind == 9:
		delete(s.roots, path)
	case kind == 8 && !s.roots[path] && len(s.roots) == 16:
		return api.ErrLarge
	case kind == 8:
		s.roots[path] = true
	case s.roots[path] || len(s.referrers(path)) > 0:
		return api.ErrAlive
	default:
		delete(s.rows, path)
	}
	return api.OK
}

// tell answers what Do does, and does it.
func (s *shelf) tell(r api.Request) api.Reply {
	row, there := s.rows[r.Path]
	switch r.Kind {
	case 1, 7:
		rows, e := s.tellRows(s.has, r)
		if e == api.OK {
			e = s.tellPut(rows)
		}
		reply := api.Reply{E: e}
		for _, row := range rows {
			if e == api.OK {
				reply.Paths = append(reply.Paths, row.Path)
			}
		}
		return reply
	case 2:
		return api.Reply{Is: there}
	case 8, 9, 10:
		return api.Reply{E: s.tellChange(r.Kind, r.Path)}
	case 11:
		return api.Reply{Paths: s.sweep()}
	case 12:
		return api.Reply{Is: true, N: len(s.rows)}
	case 3, 4, 5, 6:
		if !there {
			return api.Reply{E: api.ErrNone}
		}
	}
	switch r.Kind {
	case 3:
		sum, c := sha256.Sum256(row.Archive), s.known[string(row.Archive)]
		return api.Reply{Sum: sum[:], N: c.size, Stamp: c.most}
	case 4:
		return api.Reply{Paths: row.Refs}
	case 5:
		return api.Reply{Paths: s.referrers(r.Path)}
	case 6:
		return api.Reply{Paths: s.closure(r.Path)}
	}
	return api.Reply{E: api.ErrForm}
}
