package engine

import (
	"slices"

	"wainscot/api"
	"wainscot/catalog"
	"wainscot/keys"
	"wainscot/rows"
	"wainscot/tree"
	"wainscot/varint"
)

// ownRoot is the pager's root of the engine's own tree. It has the objects' pieces, each under its object's number and
// its own one, and, under a table's name and a column's number, the roots of the indexes without names.
const ownRoot = 0

// objects is what there is, as the engine's own tree tells it.
type objects struct {
	catalog *catalog.Catalog
	numbers map[string]int64
	unnamed map[place]int
}

// place is a column that is unique.
type place struct {
	table  string
	column int
}

func number(n int64) api.Value { return api.Value{Kind: api.Int, N: n} }

func pieceKey(object int64, piece int) ([]byte, api.Errno) {
	return keys.Key([]api.Value{number(object), number(int64(piece))})
}

func unnamedKey(at place) ([]byte, api.Errno) {
	return keys.Key([]api.Value{{Kind: api.Text, S: at.table}, number(int64(at.column))})
}

// own answers the root of the engine's own tree, which is there from the first object on.
func (e *Engine) own() (int, api.Errno) {
	if root := e.p.Root(ownRoot); root != 0 {
		return root, api.OK
	}
	root, errno := tree.Create(e.p)
	if errno != api.OK {
		return 0, errno
	}
	return root, e.p.SetRoot(ownRoot, root)
}

func (e *Engine) putOwn(key, value []byte) api.Errno {
	root, errno := e.own()
	if errno != api.OK {
		return errno
	}
	return tree.Put(e.p, root, key, value)
}

func (e *Engine) deleteOwn(key []byte) api.Errno {
	_, errno := tree.Delete(e.p, e.p.Root(ownRoot), key)
	return errno
}

// add lets an object be the last one.
func (e *Engine) add(o catalog.Object) api.Errno {
	if errno := e.catalog.Add(o); errno != api.OK {
		return errno
	}
	last := int64(0)
	for _, n := range e.numbers {
		last = max(last, n)
	}
	e.numbers[o.Name] = last + 1
	pieces, errno := catalog.Encode(o)
	if errno != api.OK {
		return errno
	}
	for i, piece := range pieces {
		key, errno := pieceKey(last+1, i)
		if errno != api.OK {
			return errno
		}
		if errno := e.putOwn(key, piece); errno != api.OK {
			return errno
		}
	}
	return api.OK
}

// remove forgets an object that is in the catalog no more, and frees its pages.
func (e *Engine) remove(o catalog.Object) api.Errno {
	pieces, errno := catalog.Encode(o)
	if errno != api.OK {
		return errno
	}
	for i := range pieces {
		key, errno := pieceKey(e.numbers[o.Name], i)
		if errno != api.OK {
			return errno
		}
		if errno := e.deleteOwn(key); errno != api.OK {
			return errno
		}
	}
	delete(e.numbers, o.Name)
	for column := range o.Columns {
		if errno := e.removeUnnamed(place{o.Name, column}); errno != api.OK {
			return errno
		}
	}
	return tree.Drop(e.p, o.Root)
}

// addUnnamed makes the index of a unique column.
func (e *Engine) addUnnamed(at place) api.Errno {
	root, errno := tree.Create(e.p)
	if errno != api.OK {
		return errno
	}
	key, errno := unnamedKey(at)
	if errno != api.OK {
		return errno
	}
	e.unnamed[at] = root
	return e.putOwn(key, varint.Append(nil, uint64(root)))
}

func (e *Engine) removeUnnamed(at place) api.Errno {
	root, there := e.unnamed[at]
	if !there {
		return api.OK
	}
	key, errno := unnamedKey(at)
	if errno != api.OK {
		return errno
	}
	delete(e.unnamed, at)
	if errno := e.deleteOwn(key); errno != api.OK {
		return errno
	}
	return tree.Drop(e.p, root)
}

// load reads what there is; ErrBad, if that isn't what add and addUnnamed write.
func (e *Engine) load() api.Errno {
	e.objects = objects{catalog.New(), map[string]int64{}, map[place]int{}}
	if e.p.Root(ownRoot) == 0 {
		return api.OK
	}
	l := loader{to: &e.objects}
	root := e.p.Root(ownRoot)
	key, value, ok, errno := tree.Next(e.p, root, nil, true)
	for ; ok; key, value, ok, errno = tree.Next(e.p, root, key, false) {
		if errno := l.take(key, value); errno != api.OK {
			return errno
		}
	}
	if errno != api.OK {
		return errno
	}
	return l.end()
}

// loader takes the cells of the engine's own tree, in order.
type loader struct {
	to     *objects
	number int64
	pieces [][]byte
}

func (l *loader) take(key, value []byte) api.Errno {
	parts, errno := keys.Row(key)
	if errno != api.OK || len(parts) != 2 || parts[1].Kind != api.Int {
		return api.ErrBad
	}
	if parts[0].Kind == api.Text {
		return l.takeUnnamed(parts, value)
	}
	if parts[0].N != l.number {
		if errno := l.end(); errno != api.OK {
			return errno
		}
		l.number = parts[0].N
	}
	if parts[0].Kind != api.Int || l.number < 1 || parts[1].N != int64(len(l.pieces)) {
		return api.ErrBad
	}
	l.pieces = append(l.pieces, value)
	return api.OK
}

// end takes the pieces of an object as whole.
func (l *loader) end() api.Errno {
	if len(l.pieces) == 0 {
		return api.OK
	}
	o, errno := catalog.Decode(l.pieces)
	if errno != api.OK || l.to.catalog.Add(o) != api.OK {
		return api.ErrBad
	}
	l.to.numbers[o.Name] = l.number
	l.pieces = nil
	return api.OK
}

func (l *loader) takeUnnamed(parts []api.Value, value []byte) api.Errno {
	root, used, errno := varint.Take(value)
	if errno != api.OK || used != len(value) || root < 1 || root >= api.MaxPages || parts[1].N < 0 || parts[1].N >= api.MaxColumns {
		return api.ErrBad
	}
	l.to.unnamed[place{parts[0].S, int(parts[1].N)}] = int(root)
	return api.OK
}

// table answers where a table lies, with its indexes: those without names first.
func (e *Engine) table(name string) (rows.Table, api.Errno) {
	o, _ := e.catalog.Find(name)
	if o.Kind != catalog.KindTable {
		return rows.Table{}, api.ErrNone
	}
	t := rows.Table{Root: o.Root, Columns: o.Columns}
	for column := range o.Columns {
		if root, there := e.unnamed[place{name, column}]; there {
			t.Indexes = append(t.Indexes, rows.Index{Root: root, Keys: []int{column}, Unique: true})
		}
	}
	for _, x := range e.catalog.Indexes(name) {
		t.Indexes = append(t.Indexes, rows.Index{Root: x.Root, Keys: x.Keys, Unique: x.Unique})
	}
	return t, api.OK
}

// roots answers the roots of all trees, rising.
func (e *Engine) roots() []int {
	var list []int
	if own := e.p.Root(ownRoot); own != 0 {
		list = append(list, own)
	}
	for _, root := range e.unnamed {
		list = append(list, root)
	}
	for _, o := range e.catalog.All() {
		list = append(list, o.Root)
	}
	slices.Sort(list)
	return list
}
