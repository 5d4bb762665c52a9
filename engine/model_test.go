package engine

import (
	"slices"

	"wainscot/algebra"
	"wainscot/api"
	"wainscot/catalog"
	"wainscot/delta"
	"wainscot/keys"
	"wainscot/parse"
	"wainscot/record"
	"wainscot/rows"
	"wainscot/scope"
	"wainscot/value"
)

// model does statements over plain rows, as DOC.md says what they mean: no pages, no indexes, no views that follow.
type model struct {
	state
	begin *state
}

// state is objects, in order, and the rows of the tables.
type state struct {
	objects []object
	rows    map[string][]rows.Row
}

type object struct {
	kind     int
	name, on string
	columns  []api.Column
	keys     []int
	unique   bool
	query    parse.Query
	uses     []string
}

func (s state) clone() state {
	out := state{slices.Clone(s.objects), map[string][]rows.Row{}}
	for name, list := range s.rows {
		out.rows[name] = slices.Clone(list)
	}
	return out
}

func newModel() *model { return &model{state: state{rows: map[string][]rows.Row{}}} }

func (m *model) busy() bool { return m.begin != nil }

func (m *model) exec(text string) (Answer, api.Errno) {
	s, e := parse.Read(text)
	if e != api.OK {
		return Answer{}, e
	}
	switch {
	case s.Kind == parse.KindQuery:
		return m.query(s.Query)
	case s.Kind == parse.KindBegin && m.busy(), (s.Kind == parse.KindCommit || s.Kind == parse.KindRollback) && !m.busy():
		return Answer{}, api.ErrState
	case s.Kind == parse.KindBegin:
		begin := m.state.clone()
		m.begin = &begin
		return Answer{}, api.OK
	case s.Kind == parse.KindCommit:
		m.begin = nil
		return Answer{}, api.OK
	case s.Kind == parse.KindRollback:
		m.state, m.begin = *m.begin, nil
		return Answer{}, api.OK
	}
	before := m.state.clone()
	n, e := m.change(s)
	if e != api.OK {
		m.state = before
		return Answer{}, e
	}
	return Answer{N: n}, api.OK
}

func (s *state) find(name string) *object {
	for i := range s.objects {
		if s.objects[i].name == name {
			return &s.objects[i]
		}
	}
	return nil
}

func (s *state) table(name string) *object {
	if o := s.find(name); o != nil && o.kind == 1 {
		return o
	}
	return nil
}

func (s *state) tables() []api.Table {
	var l []api.Table
	for _, o := range s.objects {
		if o.kind != 2 {
			l = append(l, api.Table{Name: o.name, View: o.kind == 3, Columns: o.columns})
		}
	}
	return l
}

// values are a table's, or, by its definition, a view's.
func (s *state) values(name string) [][]api.Value {
	o := s.find(name)
	if o.kind == 3 {
		q, _ := scope.Resolve(s.tables(), o.query)
		l, _ := algebra.Rows(q, s.all(q))
		return l
	}
	var l [][]api.Value
	for _, r := range s.rows[name] {
		l = append(l, r.Values)
	}
	return l
}

func (s *state) all(q scope.Query) [][][]api.Value {
	var l [][][]api.Value
	for _, n := range q.Sources {
		l = append(l, s.values(s.tables()[n].Name))
	}
	return l
}

func (s *state) query(parsed parse.Query) (Answer, api.Errno) {
	q, e := scope.Resolve(s.tables(), parsed)
	if e != api.OK {
		return Answer{}, e
	}
	all, product := s.all(q), 1
	for _, l := range all {
		product *= len(l)
	}
	if product > api.MaxCombos {
		return Answer{}, api.ErrLarge
	}
	l, e := algebra.Rows(q, all)
	if e != api.OK {
		return Answer{}, e
	}
	return Answer{Names: q.Names, Rows: l}, api.OK
}

func (s *state) full(kind int) bool {
	views := 0
	for _, o := range s.objects {
		if o.kind == 3 {
			views++
		}
	}
	return len(s.objects) >= api.MaxObjects || kind == 3 && views >= api.MaxViews
}

func (s *state) change(p parse.Statement) (int64, api.Errno) {
	switch p.Kind {
	case 1, 2, 3:
		if s.find(p.Name) != nil {
			return 0, api.ErrExists
		}
		return 0, []func(parse.Statement) api.Errno{s.createTable, s.createIndex, s.createView}[p.Kind-1](p)
	case 4, 5, 6:
		return 0, s.drop(p.Kind-3, p.Name)
	}
	if s.table(p.Name) == nil {
		return 0, api.ErrNone
	}
	n, e := int64(0), api.OK
	switch p.Kind {
	case 7:
		n, e = s.insert(p)
	case 8:
		n, e = s.update(p)
	case 9:
		n, e = s.delete(p)
	}
	if e != api.OK {
		return 0, e
	}
	return n, s.views(p.Name)
}

// views tells which error a view of a table meets.
func (s *state) views(table string) api.Errno {
	for _, o := range s.objects {
		if o.kind == 3 && slices.Contains(o.uses, table) {
			if _, e := s.entries(o); e != api.OK {
				return e
			}
		}
	}
	return api.OK
}

// entries are those that a view's definition makes of the tables.
func (s *state) entries(o object) ([]delta.Entry, api.Errno) {
	q, _ := scope.Resolve(s.tables(), o.query)
	v, e := delta.New(q)
	if e != api.OK {
		return nil, e
	}
	if e := v.Fill(s.all(q)); e != api.OK {
		return nil, e
	}
	for _, entry := range v.Entries() {
		if _, e := cellOf(entry); e != api.OK {
			return nil, e
		}
	}
	return v.Entries(), api.OK
}

func names(columns []api.Column) []string {
	var l []string
	for _, c := range columns {
		l = append(l, c.Name)
	}
	return l
}

func repeats(l []string) bool {
	l = slices.Sorted(slices.Values(l))
	return len(slices.Compact(slices.Clone(l))) != len(l)
}

func (s *state) createTable(p parse.Statement) api.Errno {
	if repeats(names(p.Columns)) {
		return api.ErrName
	}
	if s.full(1) {
		return api.ErrFull
	}
	s.objects = append(s.objects, object{kind: 1, name: p.Name, columns: p.Columns})
	return api.OK
}

func (s *state) createIndex(p parse.Statement) api.Errno {
	t := s.table(p.On)
	if t == nil {
		return api.ErrNone
	}
	o := object{kind: 2, name: p.Name, on: p.On, unique: p.Unique}
	for _, k := range p.Keys {
		o.keys = append(o.keys, slices.Index(names(t.columns), k))
	}
	if slices.Contains(o.keys, -1) || repeats(p.Keys) {
		return api.ErrName
	}
	if s.full(2) {
		return api.ErrFull
	}
	s.objects = append(s.objects, o)
	for _, r := range s.rows[p.On] {
		if e := s.check(p.On, r.Values); e != api.OK {
			return e
		}
	}
	return s.unique(p.On)
}

func (s *state) createView(p parse.Statement) api.Errno {
	q, e := scope.Resolve(s.tables(), p.Query)
	if e != api.OK {
		return e
	}
	o := object{kind: 3, name: p.Name, query: p.Query}
	if _, e := delta.New(q); e != api.OK {
		return e
	}
	for _, n := range q.Sources {
		o.uses = append(o.uses, s.tables()[n].Name)
		if s.tables()[n].View {
			return api.ErrState
		}
	}
	if len(q.Items) > api.MaxColumns {
		return api.ErrLong
	}
	if repeats(q.Names) || slices.Contains(q.Names, "") {
		return api.ErrName
	}
	if s.full(3) {
		return api.ErrFull
	}
	for i, name := range q.Names {
		o.columns = append(o.columns, api.Column{Name: name, Kind: q.Kinds[i]})
	}
	s.objects = append(s.objects, o)
	_, e = s.entries(o)
	return e
}

func (s *state) drop(kind int, name string) api.Errno {
	if o := s.find(name); o == nil || o.kind != kind {
		return api.ErrNone
	}
	for _, o := range s.objects {
		if o.kind == 3 && slices.Contains(o.uses, name) {
			return api.ErrState
		}
	}
	s.objects = slices.DeleteFunc(s.objects, func(o object) bool { return o.name == name || kind == 1 && o.on == name })
	delete(s.rows, name)
	return api.OK
}

// indexes are the columns of a table's indexes, those of its unique columns among them.
func (s *state) indexes(table string) []object {
	var l []object
	for i, c := range s.table(table).columns {
		if c.Unique {
			l = append(l, object{keys: []int{i}, unique: true})
		}
	}
	for _, o := range s.objects {
		if o.kind == 2 && o.on == table {
			l = append(l, o)
		}
	}
	return l
}

func part(o object, row []api.Value) []api.Value {
	var l []api.Value
	for _, k := range o.keys {
		l = append(l, row[k])
	}
	return l
}

func (s *state) check(table string, row []api.Value) api.Errno {
	columns := s.table(table).columns
	if len(row) != len(columns) {
		return api.ErrType
	}
	for i, v := range row {
		if v.Kind != api.Null && v.Kind != columns[i].Kind {
			return api.ErrType
		}
	}
	for i, v := range row {
		if v.Kind == api.Null && columns[i].NotNull {
			return api.ErrNull
		}
	}
	if _, e := record.Encode(row); e != api.OK {
		return api.ErrLarge
	}
	for _, o := range s.indexes(table) {
		if key, _ := keys.Key(part(o, row)); len(key) > api.MaxKey-9 {
			return api.ErrLarge
		}
	}
	return api.OK
}

func (s *state) unique(table string) api.Errno {
	for _, o := range s.indexes(table) {
		for i, a := range s.rows[table] {
			for _, b := range s.rows[table][:i] {
				x, y := part(o, a.Values), part(o, b.Values)
				if o.unique && value.Rows(x, y) == 0 && !slices.Contains(x, api.Value{}) {
					return api.ErrUnique
				}
			}
		}
	}
	return api.OK
}

func (s *state) insert(p parse.Statement) (int64, api.Errno) {
	var cells [][]scope.Cell
	for _, row := range p.Rows {
		var l []scope.Cell
		for _, x := range row {
			c, kind, e := scope.Value(nil, nil, x)
			if e == api.OK && kind == scope.Truth {
				e = api.ErrType
			}
			if e != api.OK {
				return 0, e
			}
			l = append(l, c)
		}
		cells = append(cells, l)
	}
	for _, row := range cells {
		var values []api.Value
		for _, c := range row {
			v, _, e := algebra.Worth(c, nil)
			if e != api.OK {
				return 0, e
			}
			values = append(values, v)
		}
		if e := s.check(p.Name, values); e != api.OK {
			return 0, e
		}
		have := s.rows[p.Name]
		if len(have) == api.MaxRows {
			return 0, api.ErrFull
		}
		id := int64(1)
		if len(have) > 0 {
			id = have[len(have)-1].ID + 1
		}
		s.rows[p.Name] = append(slices.Clone(have), rows.Row{ID: id, Values: values})
		if e := s.unique(p.Name); e != api.OK {
			return 0, e
		}
	}
	return int64(len(p.Rows)), api.OK
}

// matching tells of each row whether the condition is True for it.
func (s *state) matching(p parse.Statement) ([]bool, api.Errno) {
	list := make([]bool, len(s.rows[p.Name]))
	source := []int{scope.Find(s.tables(), p.Name)}
	for i := range list {
		list[i] = true
	}
	for _, x := range p.Where {
		c, kind, e := scope.Value(s.tables(), source, x)
		if e == api.OK && kind != scope.Truth {
			e = api.ErrType
		}
		if e != api.OK {
			return nil, e
		}
		for i, r := range s.rows[p.Name] {
			_, truth, e := algebra.Worth(c, [][]api.Value{r.Values})
			if e != api.OK {
				return nil, e
			}
			list[i] = truth == api.True
		}
	}
	return list, api.OK
}

func (s *state) delete(p parse.Statement) (int64, api.Errno) {
	matching, e := s.matching(p)
	if e != api.OK {
		return 0, e
	}
	var left []rows.Row
	for i, r := range s.rows[p.Name] {
		if !matching[i] {
			left = append(left, r)
		}
	}
	n := len(s.rows[p.Name]) - len(left)
	s.rows[p.Name] = left
	return int64(n), api.OK
}

func (s *state) update(p parse.Statement) (int64, api.Errno) {
	columns := names(s.table(p.Name).columns)
	var sets []int
	var set []string
	for _, a := range p.Sets {
		sets, set = append(sets, slices.Index(columns, a.Column)), append(set, a.Column)
	}
	if slices.Contains(sets, -1) || repeats(set) {
		return 0, api.ErrName
	}
	var cells []scope.Cell
	for _, a := range p.Sets {
		c, kind, e := scope.Value(s.tables(), []int{scope.Find(s.tables(), p.Name)}, a.E)
		if e == api.OK && kind == scope.Truth {
			e = api.ErrType
		}
		if e != api.OK {
			return 0, e
		}
		cells = append(cells, c)
	}
	matching, e := s.matching(p)
	if e != api.OK {
		return 0, e
	}
	n := int64(0)
	now := slices.Clone(s.rows[p.Name])
	for i, r := range now {
		if !matching[i] {
			continue
		}
		n++
		now[i].Values = slices.Clone(r.Values)
		for k, c := range cells {
			v, _, e := algebra.Worth(c, [][]api.Value{r.Values})
			if e != api.OK {
				return 0, e
			}
			now[i].Values[sets[k]] = v
		}
	}
	for i, r := range now {
		if !matching[i] {
			continue
		}
		if e := s.check(p.Name, r.Values); e != api.OK {
			return 0, e
		}
	}
	s.rows[p.Name] = now
	return n, s.unique(p.Name)
}

// told are a state's objects as a catalog has them, but for the views' texts and the roots.
func (s *state) told() []catalog.Object {
	var l []catalog.Object
	for _, o := range s.objects {
		l = append(l, catalog.Object{Kind: o.kind, Name: o.name, On: o.on, Columns: o.columns, Keys: o.keys, Unique: o.unique, Uses: o.uses})
	}
	return l
}
