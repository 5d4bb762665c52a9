package engine

import (
	"bytes"
	"slices"

	"wainscot/api"
	"wainscot/bag"
	"wainscot/catalog"
	"wainscot/delta"
	"wainscot/keys"
	"wainscot/parse"
	"wainscot/scope"
	"wainscot/tree"
	"wainscot/varint"
)

// cell is an entry as it lies in a view's tree.
type cell struct {
	key, value []byte
}

func byKey(a, b cell) int { return bytes.Compare(a.key, b.key) }

// cellOf answers an entry's cell; ErrLarge, if it is too much for one.
func cellOf(entry delta.Entry) (cell, api.Errno) {
	key, errno := keys.Key(entry.Key)
	if errno != api.OK {
		return cell{}, errno
	}
	value := varint.Append(nil, uint64(entry.N))
	for _, s := range entry.Sums {
		value = varint.Signed(varint.Append(value, uint64(s.N)), s.Total)
	}
	if len(key) > api.MaxKey || len(key)+len(value) > api.MaxCell {
		return cell{}, api.ErrLarge
	}
	return cell{key, value}, api.OK
}

// entryOf answers the entry whose cell it is; ErrBad, if there is none.
func entryOf(c cell) (delta.Entry, api.Errno) {
	key, errno := keys.Row(c.key)
	if errno != api.OK {
		return delta.Entry{}, api.ErrBad
	}
	n, used, errno := varint.Take(c.value)
	entry := delta.Entry{Key: key, N: int64(n)}
	for rest := c.value[used:]; errno == api.OK && len(rest) > 0; rest = rest[used:] {
		var s delta.Sum
		n, used, errno = varint.Take(rest)
		rest = rest[used:]
		s.N = int64(n)
		if errno == api.OK {
			s.Total, used, errno = varint.TakeSigned(rest)
		}
		entry.Sums = append(entry.Sums, s)
	}
	if errno != api.OK {
		return delta.Entry{}, api.ErrBad
	}
	return entry, api.OK
}

// entries answers a view's entries, as they lie in its tree.
func (e *Engine) entries(o catalog.Object) ([]delta.Entry, api.Errno) {
	var list []delta.Entry
	key, value, ok, errno := tree.Next(e.p, o.Root, nil, true)
	for ; ok; key, value, ok, errno = tree.Next(e.p, o.Root, key, false) {
		entry, errno := entryOf(cell{key, value})
		if errno != api.OK {
			return nil, errno
		}
		list = append(list, entry)
	}
	if errno != api.OK {
		return nil, errno
	}
	return list, api.OK
}

// meaning answers a view's query, and the view with its entries.
func (e *Engine) meaning(o catalog.Object) (scope.Query, *delta.View, api.Errno) {
	s, errno := parse.Read(o.Text)
	if errno != api.OK || s.Kind != parse.KindQuery {
		return scope.Query{}, nil, api.ErrBad
	}
	q, errno := scope.Resolve(e.catalog.Tables(), s.Query)
	if errno != api.OK {
		return scope.Query{}, nil, api.ErrBad
	}
	v, errno := delta.New(q)
	if errno != api.OK {
		return scope.Query{}, nil, api.ErrBad
	}
	list, errno := e.entries(o)
	if errno != api.OK {
		return scope.Query{}, nil, errno
	}
	return q, v, v.Load(list)
}

// keep lets the entries that lie in a view's tree be these.
func (e *Engine) keep(o catalog.Object, old, now []delta.Entry) api.Errno {
	before, errno := cellsOf(old)
	if errno != api.OK {
		return errno
	}
	behind, errno := cellsOf(now)
	if errno != api.OK {
		return errno
	}
	for _, c := range before {
		if _, there := slices.BinarySearchFunc(behind, c, byKey); there {
			continue
		}
		if _, errno := tree.Delete(e.p, o.Root, c.key); errno != api.OK {
			return errno
		}
	}
	for _, c := range behind {
		if i, there := slices.BinarySearchFunc(before, c, byKey); there && bytes.Equal(before[i].value, c.value) {
			continue
		}
		if errno := tree.Put(e.p, o.Root, c.key, c.value); errno != api.OK {
			return errno
		}
	}
	return api.OK
}

// cellsOf answers entries' cells, which are ordered as they are.
func cellsOf(list []delta.Entry) ([]cell, api.Errno) {
	cells := make([]cell, len(list))
	for i, entry := range list {
		c, errno := cellOf(entry)
		if errno != api.OK {
			return nil, errno
		}
		cells[i] = c
	}
	return cells, api.OK
}

// follow lets the views that use a table follow its change.
func (e *Engine) follow(table string, d *bag.Bag) api.Errno {
	if d.Len() == 0 {
		return api.OK
	}
	for _, o := range e.catalog.Views(table) {
		q, v, errno := e.meaning(o)
		if errno != api.OK {
			return errno
		}
		old := v.Entries()
		if errno := e.changeView(table, q, v, d); errno != api.OK {
			return errno
		}
		if errno := e.keep(o, old, v.Entries()); errno != api.OK {
			return errno
		}
	}
	return api.OK
}

func (e *Engine) changeView(table string, q scope.Query, v *delta.View, d *bag.Bag) api.Errno {
	tables := e.catalog.Tables()
	changed, other := 0, [][]api.Value(nil)
	for i, n := range q.Sources {
		if tables[n].Name == table {
			changed = i
			continue
		}
		list, errno := e.values(tables[n].Name)
		if errno != api.OK {
			return errno
		}
		other = list
	}
	return v.Change(changed, d, other)
}
