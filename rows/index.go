package rows

import (
	"bytes"
	"slices"

	"wainscot/api"
	"wainscot/keys"
	"wainscot/pager"
	"wainscot/tree"
)

// taken tells whether a unique index has a row with the same values already.
func (x Index) taken(p *pager.Pager, row []api.Value) (bool, api.Errno) {
	if !x.Unique {
		return false, api.OK
	}
	list, ok := x.values(row)
	if !ok {
		return false, api.ErrBad
	}
	// A NULL is like nothing, not even like another one.
	if slices.Contains(list, api.Value{}) {
		return false, api.OK
	}
	key, e := keys.Key(list)
	if e != api.OK {
		return false, e
	}
	next, _, ok, e := tree.Next(p, x.Root, key, true)
	return ok && bytes.HasPrefix(next, key), e
}

// entry answers the key of a row's entry: its values in the index and its number.
func (x Index) entry(r Row) ([]byte, api.Errno) {
	list, ok := x.values(r.Values)
	if !ok {
		return nil, api.ErrBad
	}
	return keys.Key(append(list, api.Value{Kind: api.Int, N: r.ID}))
}

func (x Index) add(p *pager.Pager, r Row) api.Errno {
	key, e := x.entry(r)
	if e != api.OK {
		return e
	}
	return tree.Put(p, x.Root, key, nil)
}

func (x Index) remove(p *pager.Pager, r Row) api.Errno {
	key, e := x.entry(r)
	if e != api.OK {
		return e
	}
	_, e = tree.Delete(p, x.Root, key)
	return e
}

func (t Table) has(index int) bool { return index >= 0 && index < len(t.Indexes) }

// Seek answers the numbers of the rows whose first columns of an index have these values.
func Seek(p *pager.Pager, t Table, index int, values []api.Value) ([]int64, api.Errno) {
	if !t.has(index) || len(values) == 0 || len(values) > len(t.Indexes[index].Keys) {
		return nil, api.ErrArg
	}
	x := t.Indexes[index]
	prefix, e := keys.Key(values)
	if e != api.OK {
		// Values that aren't formed are those of no row, but the tree's errors are told for them, too.
		_, _, _, e = tree.Next(p, x.Root, nil, true)
		return nil, e
	}
	var list []int64
	key, _, ok, e := tree.Next(p, x.Root, prefix, true)
	for ; ok && bytes.HasPrefix(key, prefix); key, _, ok, e = tree.Next(p, x.Root, key, false) {
		id, e := x.number(key)
		if e != api.OK {
			return nil, e
		}
		list = append(list, id)
	}
	if e != api.OK {
		return nil, e
	}
	slices.Sort(list)
	return list, api.OK
}

// number answers the number of the row whose entry a key is.
func (x Index) number(key []byte) (int64, api.Errno) {
	list, e := keys.Row(key)
	if e != api.OK || len(list) != len(x.Keys)+1 {
		return 0, api.ErrBad
	}
	last := list[len(x.Keys)]
	if last.Kind != api.Int || last.N < 1 {
		return 0, api.ErrBad
	}
	return last.N, api.OK
}

// Build lets an index, whose tree is empty, have all rows.
func Build(p *pager.Pager, t Table, index int) api.Errno {
	if !t.has(index) {
		return api.ErrArg
	}
	list, e := All(p, t)
	if e != api.OK {
		return e
	}
	x := t.Indexes[index]
	for _, r := range list {
		if _, ok := x.values(r.Values); !ok {
			return api.ErrBad
		}
		if e := x.fits(r.Values); e != api.OK {
			return e
		}
	}
	for _, r := range list {
		taken, e := x.taken(p, r.Values)
		if e != api.OK {
			return e
		}
		if taken {
			return api.ErrUnique
		}
		if e := x.add(p, r); e != api.OK {
			return e
		}
	}
	return api.OK
}
