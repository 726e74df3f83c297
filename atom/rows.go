package atom

import (
	"bytes"
	"slices"

	"godown/api"
	"godown/name"
	"godown/pack"
	"godown/scan"
)

// Rows answers the rows that an Add, or a Register, tells, if has knows what they refer to; else the error of the first wrong one.
func Rows(has func(path string) bool, r api.Request) ([]api.Row, api.Errno) {
	switch r.Kind {
	case api.Add:
		found := scan.Find(r.Archive, r.Refs)
		return outRows(has, []api.Out{{Name: r.Name, Archive: r.Archive, Refs: found}})
	case api.Register:
		return outRows(has, r.Outs)
	}
	return nil, api.ErrArg
}

// outRows makes the rows in the order of the outputs, since a row's path is made of those of its Needs.
func outRows(has func(path string) bool, outs []api.Out) ([]api.Row, api.Errno) {
	var rows []api.Row
	for _, out := range outs {
		row, e := outRow(has, out, ahead(rows, out.Needs))
		if e != api.OK {
			return nil, e
		}
		rows = append(rows, row)
	}
	return rows, api.OK
}

// outRow answers the row of one output; needed are the paths of its Needs, rising.
func outRow(has func(path string) bool, out api.Out, needed []string) (api.Row, api.Errno) {
	if _, e := pack.Read(out.Archive); e != api.OK {
		return api.Row{}, api.ErrForm
	}
	if !name.Right(out.Name) {
		return api.Row{}, api.ErrName
	}
	for _, ref := range out.Refs {
		_, comes := slices.BinarySearch(needed, ref)
		if !comes && !isThere(has, ref) {
			return api.Row{}, api.ErrRefs
		}
	}
	refs := rising(slices.Concat(out.Refs, needed))
	path, e := name.Make(out.Name, out.Archive, refs)
	if e != api.OK {
		return api.Row{}, e
	}
	return api.Row{Path: path, Name: out.Name, Archive: bytes.Clone(out.Archive), Refs: refs}, api.OK
}

// ahead answers the paths of the rows at some places, rising. A place that no row ahead stands at has no path.
func ahead(rows []api.Row, places []int) []string {
	var paths []string
	for _, place := range places {
		if 0 <= place && place < len(rows) {
			paths = append(paths, rows[place].Path)
		}
	}
	return rising(paths)
}

// rising puts a list of the caller's own in order, each path once.
func rising(paths []string) []string {
	slices.Sort(paths)
	return slices.Compact(paths)
}

// isThere asks has of paths alone. A has that is nil, or that panics, knows of none: what is handed in never makes the call panic.
func isThere(has func(path string) bool, path string) (is bool) {
	if has == nil || !name.Is(path) {
		return false
	}
	defer func() {
		if recover() != nil {
			is = false
		}
	}()
	return has(path)
}
