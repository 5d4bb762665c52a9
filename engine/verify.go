package engine

import (
	"slices"

	"wainscot/api"
	"wainscot/catalog"
	"wainscot/delta"
	"wainscot/rows"
	"wainscot/tree"
	"wainscot/value"
)

// verify loads what there is, and asks whether all of it is as an engine leaves it. What hinders it to look is told as
// it is; whatever else is met there is no engine's work.
func (e *Engine) verify() api.Errno {
	for _, step := range []func() api.Errno{e.load, e.verifyPages, e.verifyUnnamed, e.verifyTables, e.verifyViews} {
		switch errno := step(); errno {
		case api.OK:
		case api.ErrDisk:
			return errno
		default:
			return api.ErrBad
		}
	}
	return api.OK
}

// errnoOf makes what isn't right an error.
func errnoOf(right bool) api.Errno {
	if right {
		return api.OK
	}
	return api.ErrBad
}

// verifyPages asks whether each page is reached once.
func (e *Engine) verifyPages() api.Errno {
	for i := range api.Roots {
		if i != ownRoot && e.p.Root(i) != 0 {
			return api.ErrBad
		}
	}
	reached, errno := e.Reach()
	if errno != api.OK {
		return errno
	}
	once := len(slices.Compact(slices.Clone(reached))) == len(reached)
	return errnoOf(once && 1+len(e.p.Free())+len(reached) == e.p.Pages())
}

// verifyUnnamed asks whether just the unique columns have indexes without names.
func (e *Engine) verifyUnnamed() api.Errno {
	n := 0
	for _, o := range e.catalog.All() {
		for i, c := range o.Columns {
			if !c.Unique {
				continue
			}
			if _, there := e.unnamed[place{o.Name, i}]; !there {
				return api.ErrBad
			}
			n++
		}
	}
	return errnoOf(n == len(e.unnamed))
}

func (e *Engine) verifyTables() api.Errno {
	for _, o := range e.catalog.All() {
		if o.Kind != catalog.KindTable {
			continue
		}
		t, errno := e.table(o.Name)
		if errno != api.OK {
			return errno
		}
		if errno := e.verifyTable(t); errno != api.OK {
			return errno
		}
	}
	return api.OK
}

// verifyTable asks whether rows may lie in a table, and whether its indexes have just them.
func (e *Engine) verifyTable(t rows.Table) api.Errno {
	list, errno := rows.All(e.p, t)
	if errno != api.OK {
		return errno
	}
	for _, r := range list {
		if errno := rows.Check(t, r.Values); errno != api.OK {
			return errno
		}
		if errno := e.verifyEntries(t, r); errno != api.OK {
			return errno
		}
	}
	for _, x := range t.Indexes {
		n, errno := e.cells(x.Root)
		if errno != api.OK {
			return errno
		}
		if n != len(list) {
			return api.ErrBad
		}
	}
	return errnoOf(len(list) <= api.MaxRows)
}

// verifyEntries asks whether a row is found by each index, and by a unique one it alone.
func (e *Engine) verifyEntries(t rows.Table, r rows.Row) api.Errno {
	for i, x := range t.Indexes {
		var values []api.Value
		for _, k := range x.Keys {
			values = append(values, r.Values[k])
		}
		found, errno := rows.Seek(e.p, t, i, values)
		if errno != api.OK {
			return errno
		}
		alone := !x.Unique || slices.Contains(values, api.Value{}) || len(found) == 1
		if !slices.Contains(found, r.ID) || !alone {
			return api.ErrBad
		}
	}
	return api.OK
}

// cells answers how many cells a tree has.
func (e *Engine) cells(root int) (int, api.Errno) {
	n := 0
	key, _, ok, errno := tree.Next(e.p, root, nil, true)
	for ; ok; key, _, ok, errno = tree.Next(e.p, root, key, false) {
		n++
	}
	return n, errno
}

// verifyViews asks whether views have what their definitions make of the tables.
func (e *Engine) verifyViews() api.Errno {
	for _, o := range e.catalog.All() {
		if o.Kind != catalog.KindView {
			continue
		}
		q, v, errno := e.meaning(o)
		if errno != api.OK {
			return errno
		}
		var uses []string
		for _, n := range q.Sources {
			uses = append(uses, e.catalog.Tables()[n].Name)
		}
		if !slices.Equal(uses, o.Uses) || !slices.Equal(columnsOf(q), o.Columns) {
			return api.ErrBad
		}
		all, errno := e.tables(uses)
		if errno != api.OK {
			return errno
		}
		have := v.Entries()
		if errno := v.Fill(all); errno != api.OK {
			return errno
		}
		if !slices.EqualFunc(have, v.Entries(), sameEntry) {
			return api.ErrBad
		}
	}
	return api.OK
}

func sameEntry(a, b delta.Entry) bool {
	return value.Rows(a.Key, b.Key) == 0 && a.N == b.N && slices.Equal(a.Sums, b.Sums)
}
