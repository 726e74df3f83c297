package db

import (
	"slices"

	"godown/api"
	"godown/name"
)

// Put makes all rows there, or none. Till the last one is in, only the table is changed: its journal is the whole way back.
func (s *Store) Put(l []api.Row) api.Errno {
	if s == nil {
		return api.ErrNone
	}
	start := s.table.Mark()
	var came []api.Row
	for _, r := range l {
		if e := s.refuses(r); e != api.OK {
			s.table.Undo(start)
			return e
		}
		if !s.Has(r.Path) {
			own := copyOf(r)
			s.table.Set(own.Path, own)
			came = append(came, own)
		}
	}
	s.table.Done()
	s.arrive(came)
	return api.OK
}

// Root makes a path that is there a root.
func (s *Store) Root(path string) api.Errno {
	if !s.Has(path) {
		return api.ErrNone
	}
	if s.roots.has(path) {
		return api.OK
	}
	if len(s.roots) >= api.MaxRoots {
		return api.ErrLarge
	}
	s.roots.add(path)
	s.version++
	s.touch(path)
	return api.OK
}

// Unroot makes a root none any more.
func (s *Store) Unroot(path string) api.Errno {
	if s == nil || !s.roots.has(path) {
		return api.ErrNone
	}
	delete(s.roots, path)
	s.version++
	s.touch(path)
	return api.OK
}

// Delete takes a row that nobody needs. That a row refers to itself doesn't keep it.
func (s *Store) Delete(path string) api.Errno {
	if !s.Has(path) {
		return api.ErrNone
	}
	another := func(referrer string) bool { return referrer != path }
	if s.roots.has(path) || slices.ContainsFunc(s.Referrers(path), another) {
		return api.ErrAlive
	}
	s.leave([]string{path})
	return api.OK
}

// Sweep takes all rows that no root keeps, and answers their paths.
func (s *Store) Sweep() []string {
	dead := set{}
	for _, path := range s.Paths() {
		dead.add(path)
	}
	for _, path := range s.Live() {
		delete(dead, path)
	}
	gone := dead.rising()
	s.leave(gone)
	return gone
}

// refuses answers why a row may not be put to those that are there, or OK.
func (s *Store) refuses(r api.Row) api.Errno {
	switch {
	case !name.Fits(r):
		return api.ErrName
	case s.Has(r.Path):
		return api.OK
	case !every(r.Refs, s.Has):
		return api.ErrRefs
	case s.table.Len() >= api.MaxPaths:
		return api.ErrLarge
	}
	return api.OK
}

// arrive is of rows that one call has put into the table: they have one version.
func (s *Store) arrive(l []api.Row) {
	if len(l) == 0 {
		return
	}
	s.version++
	for _, r := range l {
		s.touch(r.Path)
		for _, ref := range r.Refs {
			s.touch(ref)
			s.link(ref, r.Path)
		}
	}
}

// leave takes rows that are there, of one call: their going has one version.
func (s *Store) leave(paths []string) {
	if len(paths) == 0 {
		return
	}
	s.version++
	for _, path := range paths {
		s.touch(path)
		for _, ref := range s.Refs(path) {
			s.touch(ref)
			s.unlink(ref, path)
		}
		s.table.Drop(path)
	}
	s.table.Done()
}

// touch stamps a path with the version of the change that goes on, so it stands behind the version's rise.
func (s *Store) touch(path string) { s.stamps[path] = s.version }

func (s *Store) link(ref, referrer string) {
	if s.referrers[ref] == nil {
		s.referrers[ref] = set{}
	}
	s.referrers[ref].add(referrer)
}

// unlink lets go of a set that has become empty: nothing is kept of paths that nobody refers to.
func (s *Store) unlink(ref, referrer string) {
	delete(s.referrers[ref], referrer)
	if len(s.referrers[ref]) == 0 {
		delete(s.referrers, ref)
	}
}
