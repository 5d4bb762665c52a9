package engine

import (
	"slices"

	"wainscot/algebra"
	"wainscot/api"
	"wainscot/bag"
	"wainscot/expr"
	"wainscot/parse"
	"wainscot/plan"
	"wainscot/rows"
	"wainscot/scope"
)

// valueCell answers the cell of an expression that is to be a value.
func valueCell(tables []api.Table, sources []int, x expr.Expr) (scope.Cell, api.Errno) {
	c, kind, errno := scope.Value(tables, sources, x)
	if errno != api.OK {
		return scope.Cell{}, errno
	}
	if kind == scope.Truth {
		return scope.Cell{}, api.ErrType
	}
	return c, api.OK
}

// worths answers what cells are worth for a row, if they read one.
func worths(cells []scope.Cell, row []api.Value) ([]api.Value, api.Errno) {
	list := make([]api.Value, len(cells))
	for i, c := range cells {
		v, _, errno := algebra.Worth(c, [][]api.Value{row})
		if errno != api.OK {
			return nil, errno
		}
		list[i] = v
	}
	return list, api.OK
}

func (e *Engine) insert(s parse.Statement) (int64, api.Errno) {
	t, errno := e.table(s.Name)
	if errno != api.OK {
		return 0, errno
	}
	cells := make([][]scope.Cell, len(s.Rows))
	for i, row := range s.Rows {
		for _, x := range row {
			c, errno := valueCell(nil, nil, x)
			if errno != api.OK {
				return 0, errno
			}
			cells[i] = append(cells[i], c)
		}
	}
	d := bag.New()
	for _, row := range cells {
		values, errno := worths(row, nil)
		if errno != api.OK {
			return 0, errno
		}
		if _, errno := rows.Insert(e.p, t, values); errno != api.OK {
			return 0, errno
		}
		if errno := d.Add(values, 1); errno != api.OK {
			return 0, errno
		}
	}
	return int64(len(cells)), e.follow(s.Name, d)
}

// matching answers a table's rows for which a condition, if there is one, is True.
func (e *Engine) matching(name string, t rows.Table, where []expr.Expr) ([]rows.Row, api.Errno) {
	tables := e.catalog.Tables()
	source := scope.Find(tables, name)
	q := scope.Query{Sources: []int{source}, Limit: parse.NoLimit}
	for _, x := range where {
		c, kind, errno := scope.Value(tables, []int{source}, x)
		if errno != api.OK {
			return nil, errno
		}
		if kind != scope.Truth {
			return nil, api.ErrType
		}
		q.Conditions = append(q.Conditions, c)
	}
	return plan.Match(e.p, q, []rows.Table{t})
}

func (e *Engine) delete(s parse.Statement) (int64, api.Errno) {
	t, errno := e.table(s.Name)
	if errno != api.OK {
		return 0, errno
	}
	list, errno := e.matching(s.Name, t, s.Where)
	if errno != api.OK {
		return 0, errno
	}
	d := bag.New()
	if errno := e.takeOut(t, list, d); errno != api.OK {
		return 0, errno
	}
	return int64(len(list)), e.follow(s.Name, d)
}

// takeOut takes rows out of a table, and tells d so.
func (e *Engine) takeOut(t rows.Table, list []rows.Row, d *bag.Bag) api.Errno {
	for _, r := range list {
		if _, errno := rows.Delete(e.p, t, r.ID); errno != api.OK {
			return errno
		}
		if errno := d.Add(r.Values, -1); errno != api.OK {
			return errno
		}
	}
	return api.OK
}

// setting is a column that is set, and to what.
type setting struct {
	column int
	cell   scope.Cell
}

// settings answers what an update sets.
func (e *Engine) settings(s parse.Statement, t rows.Table) ([]setting, api.Errno) {
	list := make([]setting, len(s.Sets))
	var names []string
	for i, set := range s.Sets {
		list[i].column = columnOf(t.Columns, set.Column)
		if list[i].column < 0 {
			return nil, api.ErrName
		}
		names = append(names, set.Column)
	}
	if twice(names) {
		return nil, api.ErrName
	}
	tables := e.catalog.Tables()
	for i, set := range s.Sets {
		c, errno := valueCell(tables, []int{scope.Find(tables, s.Name)}, set.E)
		if errno != api.OK {
			return nil, errno
		}
		list[i].cell = c
	}
	return list, api.OK
}

func (e *Engine) update(s parse.Statement) (int64, api.Errno) {
	t, errno := e.table(s.Name)
	if errno != api.OK {
		return 0, errno
	}
	sets, errno := e.settings(s, t)
	if errno != api.OK {
		return 0, errno
	}
	old, errno := e.matching(s.Name, t, s.Where)
	if errno != api.OK {
		return 0, errno
	}
	now, errno := updated(t, old, sets)
	if errno != api.OK {
		return 0, errno
	}
	return int64(len(old)), e.replace(s.Name, t, old, now)
}

// updated answers what rows become, if they may lie in the table so.
func updated(t rows.Table, old []rows.Row, sets []setting) ([]rows.Row, api.Errno) {
	cells := make([]scope.Cell, len(sets))
	for i, set := range sets {
		cells[i] = set.cell
	}
	now := make([]rows.Row, len(old))
	for i, r := range old {
		values, errno := worths(cells, r.Values)
		if errno != api.OK {
			return nil, errno
		}
		now[i] = rows.Row{ID: r.ID, Values: slices.Clone(r.Values)}
		for k, set := range sets {
			now[i].Values[set.column] = values[k]
		}
	}
	for _, r := range now {
		if errno := rows.Check(t, r.Values); errno != api.OK {
			return nil, errno
		}
	}
	return now, api.OK
}

// replace puts rows in the places of old ones. All of these go first, as only the end is asked to be unique.
func (e *Engine) replace(name string, t rows.Table, old, now []rows.Row) api.Errno {
	same := func(i int) bool { return slices.Equal(old[i].Values, now[i].Values) }
	var out, in []rows.Row
	for i := range old {
		if !same(i) {
			out, in = append(out, old[i]), append(in, now[i])
		}
	}
	d := bag.New()
	if errno := e.takeOut(t, out, d); errno != api.OK {
		return errno
	}
	for _, r := range in {
		if errno := rows.Put(e.p, t, r); errno != api.OK {
			return errno
		}
		if errno := d.Add(r.Values, 1); errno != api.OK {
			return errno
		}
	}
	return e.follow(name, d)
}
