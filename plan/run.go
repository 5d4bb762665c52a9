package plan

import (
	"slices"

	"wainscot/algebra"
	"wainscot/api"
	"wainscot/code"
	"wainscot/expr"
	"wainscot/pager"
	"wainscot/rows"
	"wainscot/scope"
	"wainscot/vm"
)

// Run answers a query's rows, sought as the plan says.
func Run(p *pager.Pager, q scope.Query, tables []rows.Table, plan Plan) ([][]api.Value, api.Errno) {
	if p == nil || len(tables) != len(q.Sources) || !right(q, tables, plan) {
		return nil, api.ErrArg
	}
	r, e := newRunner(p, q, tables, plan)
	if e != api.OK {
		return nil, e
	}
	if e := r.seek(0); e != api.OK {
		return nil, e
	}
	return r.finish()
}

// Match answers the rows of one table for which all conditions are True.
func Match(p *pager.Pager, q scope.Query, tables []rows.Table) ([]rows.Row, api.Errno) {
	if p == nil || len(tables) != 1 || len(q.Sources) != 1 {
		return nil, api.ErrArg
	}
	r, e := newRunner(p, q, tables, Make(q, tables))
	if e != api.OK {
		return nil, e
	}
	if e := r.seek(0); e != api.OK {
		return nil, e
	}
	list := make([]rows.Row, len(r.found))
	for i, c := range r.found {
		list[i] = c[0]
	}
	return list, api.OK
}

// runner goes through the sources, one within another one, and keeps the combinations that stay.
type runner struct {
	p      *pager.Pager
	q      scope.Query
	tables []rows.Table
	plan   Plan
	lists  [][]rows.Row
	// conditions are asked behind each source: those that can be settled there.
	conditions [][]code.Program
	chosen     []rows.Row
	found      [][]rows.Row
}

func newRunner(p *pager.Pager, q scope.Query, tables []rows.Table, plan Plan) (*runner, api.Errno) {
	r := &runner{p: p, q: q, tables: tables, plan: plan, chosen: make([]rows.Row, len(tables))}
	for _, t := range tables {
		list, e := rows.All(p, t)
		if e != api.OK {
			return nil, e
		}
		r.lists = append(r.lists, list)
	}
	if product(r.lists) > api.MaxCombos {
		return nil, api.ErrLarge
	}
	r.conditions = make([][]code.Program, len(plan.Order)+1)
	for _, c := range q.Conditions {
		program, e := code.Compile(c)
		if e != api.OK {
			return nil, e
		}
		at := r.settled(c)
		r.conditions[at] = append(r.conditions[at], program)
	}
	return r, api.OK
}

// settled answers how many sources must have their rows before a condition is asked. Where one may run over, all are
// asked of whole combinations, in their order, as only that way just those are looked at that the meaning looks at.
func (r *runner) settled(c scope.Cell) int {
	if sums(r.q) {
		return len(r.plan.Order)
	}
	at := 0
	for i, source := range r.plan.Order {
		if reads(c, source) {
			at = i + 1
		}
	}
	return at
}

func reads(c scope.Cell, source int) bool {
	return c.Kind == expr.KindColumn && c.Source == source || slices.ContainsFunc(c.Parts, func(p scope.Cell) bool { return reads(p, source) })
}

// seek goes through the rows of the sources of the order from at on.
func (r *runner) seek(at int) api.Errno {
	stays, e := r.asked(at)
	if e != api.OK || !stays {
		return e
	}
	if at == len(r.plan.Order) {
		r.found = append(r.found, slices.Clone(r.chosen))
		return api.OK
	}
	source := r.plan.Order[at]
	list, e := r.candidates(source, at)
	if e != api.OK {
		return e
	}
	for _, row := range list {
		r.chosen[source] = row
		if e := r.seek(at + 1); e != api.OK {
			return e
		}
	}
	r.chosen[source] = rows.Row{}
	return api.OK
}

// asked tells whether the conditions that can be settled at that place are True.
func (r *runner) asked(at int) (bool, api.Errno) {
	if len(r.conditions[at]) == 0 {
		return true, api.OK
	}
	values := make([][]api.Value, len(r.chosen))
	for i, row := range r.chosen {
		values[i] = row.Values
	}
	for _, program := range r.conditions[at] {
		_, truth, e := vm.Run(program, values)
		if e == api.ErrType {
			e = api.ErrArg
		}
		if e != api.OK || truth != api.True {
			return false, e
		}
	}
	return true, api.OK
}

// candidates answers the rows that a source may have, as the plan seeks them, by their numbers.
func (r *runner) candidates(source, at int) ([]rows.Row, api.Errno) {
	index := r.plan.Index[at]
	if index == all {
		return r.lists[source], api.OK
	}
	given, _ := given(r.q, r.tables[source], source, index, r.plan.Order[:at])
	v := given.V
	if given.Kind == expr.KindColumn {
		values := r.chosen[given.Source].Values
		if given.Column < 0 || given.Column >= len(values) {
			return nil, api.ErrArg
		}
		v = values[given.Column]
	}
	numbers, e := rows.Seek(r.p, r.tables[source], index, []api.Value{v})
	if e != api.OK {
		return nil, e
	}
	var list []rows.Row
	for _, row := range r.lists[source] {
		if _, there := slices.BinarySearch(numbers, row.ID); there {
			list = append(list, row)
		}
	}
	return list, api.OK
}

// finish answers what the query tells of the combinations: to layer 16 they are the rows of one source.
func (r *runner) finish() ([][]api.Value, api.Errno) {
	offsets, width := make([]int, len(r.lists)), 0
	for i, list := range r.lists {
		offsets[i] = width
		longest := len(r.tables[i].Columns)
		for _, row := range list {
			longest = max(longest, len(row.Values))
		}
		width += longest
	}
	table := make([][]api.Value, len(r.found))
	for i, c := range r.found {
		table[i] = joined(c, offsets, width)
	}
	return algebra.Rows(moved(r.q, offsets), [][][]api.Value{table})
}

// joined is one row of a combination. A value that isn't there is none that is formed, so that it is still not there.
func joined(c []rows.Row, offsets []int, width int) []api.Value {
	row := make([]api.Value, width)
	for i := range row {
		row[i].Kind = -1
	}
	for i, part := range c {
		copy(row[offsets[i]:], part.Values)
	}
	return row
}

// moved is the query of combinations: it has one source, and no conditions any more.
func moved(q scope.Query, offsets []int) scope.Query {
	q.Sources, q.Conditions = []int{0}, nil
	q.Group, q.Items = moveAll(q.Group, offsets), moveAll(q.Items, offsets)
	order := make([]scope.Order, len(q.Order))
	for i, o := range q.Order {
		order[i] = scope.Order{C: move(o.C, offsets), Desc: o.Desc}
	}
	q.Order = order
	return q
}

func moveAll(list []scope.Cell, offsets []int) []scope.Cell {
	out := make([]scope.Cell, len(list))
	for i, c := range list {
		out[i] = move(c, offsets)
	}
	return out
}

func move(c scope.Cell, offsets []int) scope.Cell {
	c.Parts = moveAll(c.Parts, offsets)
	if c.Kind == expr.KindColumn && c.Source >= 0 && c.Source < len(offsets) {
		c.Source, c.Column = 0, offsets[c.Source]+c.Column
	}
	return c
}
