package db

import (
	"bytes"
	"maps"
	"slices"

	"godown/api"
	"godown/name"
)

// Check tells whether all holds that always does. It asks the rows and the sets of referrers both, since each could have what the other lacks.
func (s *Store) Check() bool {
	if s == nil {
		return true
	}
	referred := slices.Sorted(maps.Keys(s.referrers))
	return every(s.Paths(), s.holds) && every(s.Roots(), s.Has) && every(referred, s.mirrored)
}

// holds tells of a path's row whether it is that of its content, and whether what it refers to is there and knows of it.
func (s *Store) holds(path string) bool {
	r, _ := s.row(path)
	known := func(ref string) bool { return s.Has(ref) && s.referrers[ref].has(path) }
	return r.Path == path && name.Fits(r) && every(r.Refs, known)
}

// mirrored tells whether all that are told to refer to a path do so.
func (s *Store) mirrored(ref string) bool {
	refers := func(referrer string) bool { return slices.Contains(s.Refs(referrer), ref) }
	return every(s.Referrers(ref), refers)
}

// Same tells whether two stores have the same rows and roots, whatever was done ahead of that.
func Same(a, b *Store) bool {
	alike := func(path string) bool {
		r, _ := a.row(path)
		q, _ := b.row(path)
		return sameRow(r, q)
	}
	return slices.Equal(a.Paths(), b.Paths()) && slices.Equal(a.Roots(), b.Roots()) && every(a.Paths(), alike)
}

func sameRow(a, b api.Row) bool {
	return a.Path == b.Path && a.Name == b.Name && bytes.Equal(a.Archive, b.Archive) && slices.Equal(a.Refs, b.Refs)
}

// every tells whether a test holds of all paths.
func every(l []string, test func(path string) bool) bool {
	for _, path := range l {
		if !test(path) {
			return false
		}
	}
	return true
}
