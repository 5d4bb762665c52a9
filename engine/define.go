package engine

import (
	"slices"

	"wainscot/api"
	"wainscot/catalog"
	"wainscot/delta"
	"wainscot/parse"
	"wainscot/rows"
	"wainscot/scope"
	"wainscot/show"
	"wainscot/tree"
)

// maxText is how long a view's text may be.
const maxText = 1000

// taken tells whether there is an object of that name.
func (e *Engine) taken(name string) bool {
	_, there := e.catalog.Find(name)
	return there
}

// create makes a tree for an object, and adds it.
func (e *Engine) create(o catalog.Object) (catalog.Object, api.Errno) {
	root, errno := tree.Create(e.p)
	if errno != api.OK {
		return catalog.Object{}, errno
	}
	o.Root = root
	return o, e.add(o)
}

func (e *Engine) createTable(s parse.Statement) api.Errno {
	if e.taken(s.Name) {
		return api.ErrExists
	}
	var names []string
	for _, c := range s.Columns {
		names = append(names, c.Name)
	}
	if twice(names) {
		return api.ErrName
	}
	if _, errno := e.create(catalog.Object{Kind: catalog.KindTable, Name: s.Name, Columns: s.Columns}); errno != api.OK {
		return errno
	}
	for i, c := range s.Columns {
		if !c.Unique {
			continue
		}
		if errno := e.addUnnamed(place{s.Name, i}); errno != api.OK {
			return errno
		}
	}
	return api.OK
}

// twice tells whether a name stands twice in a list.
func twice(names []string) bool {
	for i, name := range names {
		if slices.Contains(names[:i], name) {
			return true
		}
	}
	return false
}

// columnOf answers the number of the column of that name: -1, if there is none.
func columnOf(columns []api.Column, name string) int {
	return slices.IndexFunc(columns, func(c api.Column) bool { return c.Name == name })
}

func (e *Engine) createIndex(s parse.Statement) api.Errno {
	if e.taken(s.Name) {
		return api.ErrExists
	}
	t, errno := e.table(s.On)
	if errno != api.OK {
		return errno
	}
	o := catalog.Object{Kind: catalog.KindIndex, Name: s.Name, On: s.On, Unique: s.Unique}
	for _, name := range s.Keys {
		o.Keys = append(o.Keys, columnOf(t.Columns, name))
	}
	if twice(s.Keys) || slices.Contains(o.Keys, -1) {
		return api.ErrName
	}
	o, errno = e.create(o)
	if errno != api.OK {
		return errno
	}
	t.Indexes = []rows.Index{{Root: o.Root, Keys: o.Keys, Unique: o.Unique}}
	return rows.Build(e.p, t, 0)
}

func (e *Engine) createView(s parse.Statement) api.Errno {
	if e.taken(s.Name) {
		return api.ErrExists
	}
	q, errno := scope.Resolve(e.catalog.Tables(), s.Query)
	if errno != api.OK {
		return errno
	}
	o, v, errno := e.defined(s, q)
	if errno != api.OK {
		return errno
	}
	if o, errno = e.create(o); errno != api.OK {
		return errno
	}
	all, errno := e.tables(o.Uses)
	if errno != api.OK {
		return errno
	}
	if errno := v.Fill(all); errno != api.OK {
		return errno
	}
	return e.keep(o, nil, v.Entries())
}

// defined answers the object that a view's definition says, without a root, and the view.
func (e *Engine) defined(s parse.Statement, q scope.Query) (catalog.Object, *delta.View, api.Errno) {
	o := catalog.Object{Kind: catalog.KindView, Name: s.Name}
	v, errno := delta.New(q)
	if errno != api.OK {
		return o, nil, errno
	}
	for _, n := range q.Sources {
		t := e.catalog.Tables()[n]
		if t.View {
			return o, nil, api.ErrState
		}
		o.Uses = append(o.Uses, t.Name)
	}
	text, errno := show.Query(s.Query)
	if errno != api.OK || len(text) > maxText {
		return o, nil, api.ErrLarge
	}
	o.Text = text
	if len(q.Items) > api.MaxColumns {
		return o, nil, api.ErrLong
	}
	if twice(q.Names) || slices.Contains(q.Names, "") {
		return o, nil, api.ErrName
	}
	o.Columns = columnsOf(q)
	return o, v, api.OK
}

// columnsOf answers the columns that a view of a query has.
func columnsOf(q scope.Query) []api.Column {
	var list []api.Column
	for i, name := range q.Names {
		list = append(list, api.Column{Name: name, Kind: q.Kinds[i]})
	}
	return list
}

func (e *Engine) drop(kind int, name string) api.Errno {
	gone, errno := e.catalog.Drop(kind, name)
	if errno != api.OK {
		return errno
	}
	for _, o := range gone {
		if errno := e.remove(o); errno != api.OK {
			return errno
		}
	}
	return api.OK
}
