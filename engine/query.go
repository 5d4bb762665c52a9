package engine

import (
	"wainscot/algebra"
	"wainscot/api"
	"wainscot/parse"
	"wainscot/plan"
	"wainscot/rows"
	"wainscot/scope"
)

func (e *Engine) query(parsed parse.Query) (Answer, api.Errno) {
	tables := e.catalog.Tables()
	q, errno := scope.Resolve(tables, parsed)
	if errno != api.OK {
		return Answer{}, errno
	}
	var sources []api.Table
	view := false
	for _, n := range q.Sources {
		sources = append(sources, tables[n])
		view = view || tables[n].View
	}
	run := e.runPlanned
	if view {
		run = e.runRead
	}
	list, errno := run(q, sources)
	if errno != api.OK {
		return Answer{}, errno
	}
	return Answer{Names: q.Names, Rows: list}, api.OK
}

// runPlanned runs a query of tables alone.
func (e *Engine) runPlanned(q scope.Query, sources []api.Table) ([][]api.Value, api.Errno) {
	var tables []rows.Table
	for _, s := range sources {
		t, errno := e.table(s.Name)
		if errno != api.OK {
			return nil, errno
		}
		tables = append(tables, t)
	}
	return plan.Run(e.p, q, tables, plan.Make(q, tables))
}

// runRead runs a query of which a source is a view: such rows lie in no table's tree, so that there is nothing to plan.
func (e *Engine) runRead(q scope.Query, sources []api.Table) ([][]api.Value, api.Errno) {
	var all [][][]api.Value
	for _, s := range sources {
		list, errno := e.rowsOf(s)
		if errno != api.OK {
			return nil, errno
		}
		all = append(all, list)
	}
	if tooMany(all) {
		return nil, api.ErrLarge
	}
	return algebra.Rows(q, all)
}

// tooMany tells whether there are more combinations than there may be.
func tooMany(all [][][]api.Value) bool {
	n := 1
	for _, list := range all {
		if len(list) == 0 {
			return false
		}
		n = min(n*min(len(list), api.MaxCombos+1), api.MaxCombos+1)
	}
	return n > api.MaxCombos
}

// rowsOf answers the rows of a table, or of a view.
func (e *Engine) rowsOf(s api.Table) ([][]api.Value, api.Errno) {
	if !s.View {
		return e.values(s.Name)
	}
	o, _ := e.catalog.Find(s.Name)
	_, v, errno := e.meaning(o)
	if errno != api.OK {
		return nil, errno
	}
	return v.Rows()
}

// values answers the values of a table's rows.
func (e *Engine) values(name string) ([][]api.Value, api.Errno) {
	t, errno := e.table(name)
	if errno != api.OK {
		return nil, errno
	}
	list, errno := rows.All(e.p, t)
	if errno != api.OK {
		return nil, errno
	}
	values := make([][]api.Value, len(list))
	for i, r := range list {
		values[i] = r.Values
	}
	return values, api.OK
}

// tables answers the values of the rows of several tables.
func (e *Engine) tables(names []string) ([][][]api.Value, api.Errno) {
	var all [][][]api.Value
	for _, name := range names {
		list, errno := e.values(name)
		if errno != api.OK {
			return nil, errno
		}
		all = append(all, list)
	}
	return all, api.OK
}
