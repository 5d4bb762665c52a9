package delta

import (
	"maps"
	"slices"

	"wainscot/algebra"
	"wainscot/api"
	"wainscot/keys"
	"wainscot/scope"
	"wainscot/value"
	"wainscot/wide"
)

// gatherer puts together what combinations mean for a view's entries, by their keys.
type gatherer struct {
	view   *View
	groups map[string]*group
}

// group is what combinations of one key are together. On the way its numbers may be beyond those of an entry.
type group struct {
	key  []api.Value
	n    wide.Int
	sums []pair
}

type pair struct{ n, total wide.Int }

// others goes through the rows of the sources behind the first one.
func (g *gatherer) others(rows [][]api.Value, tables [][][]api.Value, at int) api.Errno {
	if len(tables) == 0 {
		return g.take(rows, 1)
	}
	for _, row := range tables[0] {
		rows[at] = row
		if e := g.others(rows, tables[1:], at+1); e != api.OK {
			return e
		}
	}
	return api.OK
}

// take takes a combination, which is there n times more, if it stays.
func (g *gatherer) take(rows [][]api.Value, n int64) api.Errno {
	for _, c := range g.view.conditions {
		_, truth, e := algebra.Worth(c, rows)
		if e != api.OK || truth != api.True {
			return e
		}
	}
	key, e := worths(g.view.keys, rows)
	if e != api.OK {
		return e
	}
	to, e := g.of(key)
	if e != api.OK {
		return e
	}
	to.n.Add(n)
	for i, c := range g.view.sums {
		if e := to.sums[i].take(c, rows, n); e != api.OK {
			return e
		}
	}
	return api.OK
}

func worths(cells []scope.Cell, rows [][]api.Value) ([]api.Value, api.Errno) {
	list := make([]api.Value, len(cells))
	for i, c := range cells {
		v, _, e := algebra.Worth(c, rows)
		if e != api.OK {
			return nil, e
		}
		list[i] = v
	}
	return list, api.OK
}

// of answers the group of a key.
func (g *gatherer) of(key []api.Value) (*group, api.Errno) {
	b, e := keys.Key(key)
	if e != api.OK {
		return nil, e
	}
	to := g.groups[string(b)]
	if to == nil {
		to = &group{key: key, sums: make([]pair, len(g.view.sums))}
		g.groups[string(b)] = to
	}
	return to, api.OK
}

// take adds what an aggregate's part is worth, n times.
func (p *pair) take(c scope.Cell, rows [][]api.Value, n int64) api.Errno {
	if len(c.Parts) == 0 {
		p.n.Add(n)
		return api.OK
	}
	v, _, e := algebra.Worth(c.Parts[0], rows)
	if e != api.OK || v.Kind == api.Null {
		return e
	}
	p.n.Add(n)
	if c.Op != "SUM" {
		return api.OK
	}
	if v.Kind != api.Int {
		return api.ErrArg
	}
	p.total.AddProduct(v.N, n)
	return api.OK
}

// merged answers entries with what was gathered. Only what comes out is asked to fit, and not to be below 0.
func (g *gatherer) merged(entries []Entry) ([]Entry, api.Errno) {
	out := cloneEntries(entries)
	state := api.OK
	for _, b := range slices.Sorted(maps.Keys(g.groups)) {
		more := g.groups[b]
		at, there := slices.BinarySearchFunc(out, more.key, func(e Entry, key []api.Value) int { return value.Rows(e.Key, key) })
		if !there {
			out = slices.Insert(out, at, Entry{Key: more.key, Sums: make([]Sum, len(more.sums))})
		}
		fits, below := more.addTo(&out[at])
		if !fits {
			return nil, api.ErrOver
		}
		if below {
			state = api.ErrState
		}
		if out[at].N == 0 {
			out = slices.Delete(out, at, at+1)
		}
	}
	if state != api.OK {
		return nil, state
	}
	return out, api.OK
}

// addTo adds to an entry, and tells whether all of it fits, and whether something is below 0 that can't be.
func (g *group) addTo(e *Entry) (fits, below bool) {
	fits = add(&e.N, g.n)
	below = e.N < 0
	for i := range g.sums {
		fits = add(&e.Sums[i].N, g.sums[i].n) && add(&e.Sums[i].Total, g.sums[i].total) && fits
		below = below || e.Sums[i].N < 0
	}
	return fits, below
}

func add(to *int64, more wide.Int) bool {
	more.Add(*to)
	n, fits := more.Int64()
	*to = n
	return fits
}
