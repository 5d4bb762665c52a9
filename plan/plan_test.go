package plan

import (
	"math/rand"
	"slices"
	"strconv"
	"strings"
	"testing"

	"wainscot/algebra"
	"wainscot/api"
	"wainscot/disk"
	"wainscot/pager"
	"wainscot/parse"
	"wainscot/rows"
	"wainscot/scope"
	"wainscot/tree"
)

func check(t *testing.T, what string, got, want api.Errno) {
	t.Helper()
	if got != want {
		t.Fatalf("%s: %d, not %d", what, got, want)
	}
}

func word(s string) api.Value {
	if n, e := strconv.ParseInt(s, 10, 64); e == nil {
		return api.Value{Kind: api.Int, N: n}
	}
	if s == "N" {
		return api.Value{}
	}
	return api.Value{Kind: api.Text, S: s}
}

func of(s string) []api.Value {
	var l []api.Value
	for _, w := range strings.Fields(s) {
		l = append(l, word(w))
	}
	return l
}

// base is three tables with indexes: t on a and on (b, a), u on d, w on none.
type base struct {
	t      *testing.T
	p      *pager.Pager
	names  []api.Table
	tables []rows.Table
}

func newBase(t *testing.T) *base {
	t.Helper()
	p, e := pager.Open(disk.New(1<<21), 50)
	check(t, "open", e, api.OK)
	b := &base{t: t, p: p, names: []api.Table{
		{Name: "t", Columns: []api.Column{{Name: "a", Kind: api.Int}, {Name: "b", Kind: api.Text}, {Name: "c", Kind: api.Int}}},
		{Name: "u", Columns: []api.Column{{Name: "d", Kind: api.Int}, {Name: "e", Kind: api.Text}}},
		{Name: "w", Columns: []api.Column{{Name: "f", Kind: api.Int}}},
	}}
	for i, indexes := range [][]rows.Index{{{Keys: []int{0}}, {Keys: []int{1, 0}}}, {{Keys: []int{0}}}, nil} {
		root, e := tree.Create(p)
		check(t, "create", e, api.OK)
		for k := range indexes {
			indexes[k].Root, e = tree.Create(p)
			check(t, "create", e, api.OK)
		}
		b.tables = append(b.tables, rows.Table{Root: root, Columns: b.names[i].Columns, Indexes: indexes})
	}
	return b
}

func (b *base) insert(table int, list ...string) {
	b.t.Helper()
	for _, s := range list {
		_, e := rows.Insert(b.p, b.tables[table], of(s))
		check(b.t, "insert "+s, e, api.OK)
	}
}

// query answers a query, its sources' tables, and the rows of these.
func (b *base) query(s string) (scope.Query, []rows.Table, [][][]api.Value) {
	b.t.Helper()
	p, e := parse.Read(s)
	check(b.t, s, e, api.OK)
	q, e := scope.Resolve(b.names, p.Query)
	check(b.t, s, e, api.OK)
	var tables []rows.Table
	var all [][][]api.Value
	for _, n := range q.Sources {
		tables = append(tables, b.tables[n])
		l, e := rows.All(b.p, b.tables[n])
		check(b.t, "all", e, api.OK)
		var values [][]api.Value
		for _, r := range l {
			values = append(values, r.Values)
		}
		all = append(all, values)
	}
	return q, tables, all
}

func TestMake(t *testing.T) {
	b := newBase(t)
	for _, c := range []struct {
		s            string
		order, index []int
	}{
		{"SELECT a FROM t", []int{0}, []int{-1}}, {"SELECT a FROM t WHERE a = 5", []int{0}, []int{0}}, {"SELECT a FROM t WHERE 5 = a", []int{0}, []int{0}}, {"SELECT a FROM t WHERE b = 'x'", []int{0}, []int{1}}, {"SELECT a FROM t WHERE a = NULL", []int{0}, []int{0}},
		{"SELECT a FROM t WHERE a > 5", []int{0}, []int{-1}}, {"SELECT a FROM t WHERE a = 5 AND c = 1", []int{0}, []int{-1}}, {"SELECT a FROM t WHERE NOT a = 5", []int{0}, []int{-1}}, {"SELECT a FROM t WHERE a = c", []int{0}, []int{-1}}, {"SELECT a FROM t WHERE a = a", []int{0}, []int{-1}}, {"SELECT a FROM t WHERE a = -5", []int{0}, []int{-1}}, {"SELECT a FROM t WHERE a = 1 + 1", []int{0}, []int{-1}}, {"SELECT f FROM w WHERE f = 1", []int{0}, []int{-1}}, {"SELECT -a FROM t WHERE a = 5", []int{0}, []int{0}},
		{"SELECT a FROM t JOIN u ON a = d", []int{0, 1}, []int{-1, 0}}, {"SELECT a FROM t JOIN u ON a = d WHERE b = 'x'", []int{0, 1}, []int{1, 0}}, {"SELECT f FROM w JOIN u ON f = d", []int{0, 1}, []int{-1, 0}}, {"SELECT f FROM u JOIN w ON f = d", []int{1, 0}, []int{-1, 0}}, {"SELECT f FROM t JOIN w ON 1 = 1 JOIN u ON d = f AND a = f", []int{0, 1, 2}, []int{-1, -1, -1}}, {"SELECT f FROM t JOIN w ON a = f JOIN u ON d = a", []int{1, 0, 2}, []int{-1, 0, 0}}, {"SELECT f FROM u JOIN w ON d = f WHERE f + 1 > 0", []int{0, 1}, []int{-1, -1}}, {"SELECT x.a FROM t AS x JOIN t AS y ON x.a = y.a WHERE y.b = 'q'", []int{1, 0}, []int{1, 0}},
	} {
		q, tables, _ := b.query(c.s)
		p := Make(q, tables)
		if !slices.Equal(p.Order, c.order) || !slices.Equal(p.Index, c.index) || !right(q, tables, p) {
			t.Error(c.s, p)
		}
	}
	q, tables, _ := b.query("SELECT a FROM t JOIN u ON a = d")
	for n := range 3 {
		if p := Make(q, append(slices.Clone(tables), tables...)[:n]); len(p.Order) != 2 || len(p.Index) != 2 {
			t.Error(p)
		}
	}
	if p := Make(scope.Query{}, nil); len(p.Order)+len(p.Index) != 0 {
		t.Error(p)
	}
}

func shown(list [][]api.Value) string {
	var l []string
	for _, row := range list {
		var words []string
		for _, v := range row {
			switch v.Kind {
			case api.Null:
				words = append(words, "N")
			case api.Int:
				words = append(words, strconv.FormatInt(v.N, 10))
			default:
				words = append(words, v.S)
			}
		}
		l = append(l, strings.Join(words, " "))
	}
	return strings.Join(l, "; ")
}

// plans are all that Make could tell.
func plans(q scope.Query, tables []rows.Table) []Plan {
	var orders [][]int
	var permute func(ahead []int)
	permute = func(ahead []int) {
		if len(ahead) == len(tables) {
			orders = append(orders, slices.Clone(ahead))
		}
		for s := range tables {
			if !slices.Contains(ahead, s) {
				permute(append(ahead, s))
			}
		}
	}
	permute(nil)
	var l []Plan
	for _, order := range orders {
		parts := [][]int{nil}
		for _, s := range order {
			var more [][]int
			for _, part := range parts {
				for index := -1; index < len(tables[s].Indexes); index++ {
					more = append(more, append(slices.Clone(part), index))
				}
			}
			parts = more
		}
		for _, index := range parts {
			l = append(l, Plan{order, index})
		}
	}
	return l
}

func TestRun(t *testing.T) {
	b := newBase(t)
	b.insert(0, "1 x 5", "2 y N", "1 z 7", "N x 5", "3 N 1")
	b.insert(1, "1 k", "3 l", "1 m", "N n")
	b.insert(2, "1", "2")
	for s, want := range map[string]string{
		"SELECT a, b FROM t WHERE a = 1":                                                         "1 x; 1 z",
		"SELECT b FROM t WHERE a = NULL":                                                         "",
		"SELECT c FROM t WHERE b = 'x' AND a IS NULL":                                            "5",
		"SELECT a, e FROM t JOIN u ON a = d":                                                     "1 k; 1 k; 1 m; 1 m; 3 l",
		"SELECT f, b, e FROM w JOIN t ON f = a JOIN u ON d = f":                                  "1 x k; 1 x m; 1 z k; 1 z m",
		"SELECT COUNT(*), SUM(a + d) FROM t JOIN u ON a = d":                                     "5 14",
		"SELECT e, COUNT(*) FROM u JOIN t ON d = a GROUP BY e ORDER BY COUNT(*) DESC, e LIMIT 2": "k 2; m 2",
		"SELECT DISTINCT a FROM t JOIN w ON 1 = 1 ORDER BY a DESC":                               "3; 2; 1; N",
		"SELECT a, e FROM t JOIN u ON a = d ORDER BY e DESC":                                     "1 m; 1 m; 3 l; 1 k; 1 k",
		"SELECT MAX(e), f FROM w JOIN u ON 1 = 1 GROUP BY f ORDER BY MIN(e), f DESC":             "n 2; n 1",
		"SELECT * FROM w JOIN u ON f = d":                                                        "1 1 k; 1 1 m",
		"SELECT f FROM w WHERE 1 = 2":                                                            "",
	} {
		q, tables, _ := b.query(s)
		if got, e := Run(b.p, q, tables, Make(q, tables)); shown(got) != want || e != api.OK {
			t.Errorf("%s: %s %d", s, shown(got), e)
		}
	}
}

func TestRunWrong(t *testing.T) {
	b := newBase(t)
	b.insert(0, "1 x 5")
	q, tables, _ := b.query("SELECT a FROM t JOIN u ON a = d WHERE b = 'x'")
	for i, p := range []Plan{
		{}, {Order: []int{0, 1}}, {Index: []int{-1, -1}}, {[]int{0}, []int{-1}}, {[]int{0, 1}, []int{-1}}, {[]int{0, 0}, []int{-1, -1}}, {[]int{0, 2}, []int{-1, -1}}, {[]int{-1, 0}, []int{-1, -1}}, {[]int{0, 1, 0}, []int{-1, -1, -1}}, {[]int{0, 1}, []int{-2, -1}}, {[]int{0, 1}, []int{2, -1}}, {[]int{0, 1}, []int{0, -1}}, {[]int{1, 0}, []int{0, -1}}, {[]int{0, 1}, []int{-1, 1}},
	} {
		if got, e := Run(b.p, q, tables, p); len(got) != 0 || e != api.ErrArg {
			t.Error(i, got, e)
		}
	}
	for i, p := range []Plan{{[]int{0, 1}, []int{-1, -1}}, {[]int{1, 0}, []int{-1, -1}}, {[]int{0, 1}, []int{1, 0}}, {[]int{0, 1}, []int{1, -1}}, {[]int{1, 0}, []int{-1, 0}}, {[]int{1, 0}, []int{-1, 1}}} {
		if got, e := Run(b.p, q, tables, p); len(got) != 0 || e != api.OK {
			t.Error(i, got, e)
		}
		for _, l := range [][]rows.Table{nil, tables[:1], append(slices.Clone(tables), tables[0])} {
			if got, e := Run(b.p, q, l, p); len(got) != 0 || e != api.ErrArg {
				t.Error(i, got, e)
			}
		}
		if _, e := Run(nil, q, tables, p); e != api.ErrArg {
			t.Error(e)
		}
	}
	// A plan of no right sources is none, whatever is asked of them.
	b.insert(1, "1 k")
	q, tables, _ = b.query("SELECT a FROM t JOIN u ON 1 = 1")
	for _, order := range [][]int{{0, 2}, {2, 0}, {-1, 0}, {0, -1}, {1, 1}} {
		if got, e := Run(b.p, q, tables, Plan{order, []int{-1, -1}}); len(got) != 0 || e != api.ErrArg {
			t.Error(order, got, e)
		}
	}
	// Where a condition may run over, there is one plan.
	q, tables, _ = b.query("SELECT a FROM t JOIN u ON a = d WHERE b = 'x'")
	q, tables, _ = b.query("SELECT a FROM t JOIN u ON a = d WHERE a + 1 > 0")
	for _, p := range plans(q, tables) {
		want := api.ErrArg
		if slices.Equal(p.Order, []int{0, 1}) && slices.Equal(p.Index, []int{-1, -1}) {
			want = api.OK
		}
		if _, e := Run(b.p, q, tables, p); e != want {
			t.Error(p, e)
		}
	}
	bad := slices.Clone(tables)
	bad[1].Root = 999
	if _, e := Run(b.p, q, bad, Plan{[]int{0, 1}, []int{-1, -1}}); e != api.ErrNone {
		t.Error(e)
	}
	if _, e := Match(b.p, scope.Query{Sources: []int{1}}, bad[1:]); e != api.ErrNone {
		t.Error(e)
	}
}

func TestOver(t *testing.T) {
	b := newBase(t)
	b.insert(0, "9223372036854775807 x 1", "1 y 1")
	b.insert(1, "1 k", "2 l")
	for s, want := range map[string]api.Errno{
		"SELECT a FROM t WHERE a + 1 > 0": api.ErrOver, "SELECT a + 1 FROM t WHERE a = 1": api.OK, "SELECT a + 1 FROM t": api.ErrOver, "SELECT a FROM t WHERE a = 1 AND a + 1 > 0": api.OK, "SELECT a FROM t JOIN u ON a = d WHERE a + 1 > 0": api.OK, "SELECT a FROM t JOIN u ON a + 1 > 0 WHERE a = d": api.ErrOver, "SELECT SUM(a) FROM t": api.ErrOver, "SELECT SUM(a) FROM t WHERE b = 'x'": api.OK, "SELECT SUM(a + d) FROM t JOIN u ON b = 'y' AND a = d": api.OK,
	} {
		q, tables, _ := b.query(s)
		if got, e := Run(b.p, q, tables, Make(q, tables)); e != want || e != api.OK && len(got) > 0 {
			t.Error(s, got, e)
		}
	}
}

// Combinations are counted ahead of looking at them.
func TestLarge(t *testing.T) {
	for _, c := range []struct {
		sizes []int
		e     api.Errno
	}{{[]int{30, 30, 30}, api.OK}, {[]int{10, 10, 10, 10, 10}, api.OK}, {[]int{30, 30, 30, 3}, api.OK}, {[]int{30, 30, 30, 4}, api.ErrLarge}, {[]int{30, 30, 30, 4, 1}, api.ErrLarge}, {[]int{1, 30, 30, 30, 30, 30, 30, 30, 30, 30, 30, 30, 30, 30, 30, 30}, api.ErrLarge}, {[]int{30, 30, 30, 30, 0}, api.OK}, {[]int{0, 30, 30, 30, 30}, api.OK}} {
		b := newBase(t)
		q, _, _ := b.query("SELECT COUNT(*) FROM w WHERE 1 = 2")
		q.Sources = nil
		var tables []rows.Table
		plain := Plan{}
		for i, size := range c.sizes {
			root, e := tree.Create(b.p)
			check(t, "create", e, api.OK)
			table := b.tables[2]
			table.Root = root
			for k := range size {
				_, e := rows.Insert(b.p, table, of(strconv.Itoa(k)))
				check(t, "insert", e, api.OK)
			}
			tables, q.Sources = append(tables, table), append(q.Sources, i)
			plain.Order, plain.Index = append(plain.Order, i), append(plain.Index, -1)
		}
		got, e := Run(b.p, q, tables, plain)
		if e != c.e || e == api.OK && shown(got) != "0" || e != api.OK && len(got) > 0 {
			t.Error(c, shown(got), e)
		}
	}
}

func TestMatch(t *testing.T) {
	b := newBase(t)
	b.insert(0, "1 x 5", "2 y N", "1 z 7", "N x 5", "3 N 1", "1 x 9")
	rows.Delete(b.p, b.tables[0], 3)
	for s, want := range map[string][]int64{
		"SELECT a FROM t": {1, 2, 4, 5, 6}, "SELECT a FROM t WHERE a = 1": {1, 6}, "SELECT a FROM t WHERE b = 'x' AND c = 5": {1, 4}, "SELECT a FROM t WHERE b = 'x'": {1, 4, 6}, "SELECT a FROM t WHERE a + 1 > 2": {2, 5}, "SELECT a FROM t WHERE a IS NULL": {4}, "SELECT a FROM t WHERE a = 7": nil, "SELECT a FROM t WHERE NULL = 1": nil,
	} {
		q, tables, _ := b.query(s)
		got, e := Match(b.p, q, tables)
		var ids []int64
		for _, r := range got {
			ids = append(ids, r.ID)
			values, ok, e := rows.Get(b.p, b.tables[0], r.ID)
			if !ok || e != api.OK || !slices.Equal(values, r.Values) {
				t.Error(r)
			}
		}
		if !slices.Equal(ids, want) || e != api.OK {
			t.Error(s, ids, e)
		}
	}
	q, tables, _ := b.query("SELECT a FROM t WHERE a * 9223372036854775807 > 0")
	if got, e := Match(b.p, q, tables); len(got) != 0 || e != api.ErrOver {
		t.Error(got, e)
	}
	q, tables, _ = b.query("SELECT a FROM t JOIN u ON a = d")
	for _, l := range [][]rows.Table{nil, tables, tables[:1]} {
		if got, e := Match(b.p, q, l); len(got) != 0 || e != api.ErrArg {
			t.Error(got, e)
		}
	}
	q.Sources = q.Sources[:1]
	if got, e := Match(b.p, q, nil); len(got) != 0 || e != api.ErrArg {
		t.Error(got, e)
	}
	if _, e := Match(nil, q, tables[:1]); e != api.ErrArg {
		t.Error(e)
	}
}

// Whichever plan is run, the rows are those of the meaning.
func TestAnyPlan(t *testing.T) {
	r := rand.New(rand.NewSource(22))
	pick := func(l ...string) string { return l[r.Intn(len(l))] }
	runs := 0
	for range 12 {
		b := newBase(t)
		for range r.Intn(9) {
			b.insert(0, pick("N", "1", "2", "3")+" "+pick("N", "x", "y")+" "+pick("N", "1", "2"))
		}
		for range r.Intn(9) {
			b.insert(1, pick("N", "1", "2", "3")+" "+pick("N", "x", "y"))
		}
		for range r.Intn(4) {
			b.insert(2, pick("N", "1", "2", "3"))
		}
		for range 12 {
			s := pick("SELECT a, b, d", "SELECT COUNT(*), SUM(a * d), MIN(e)", "SELECT DISTINCT e", "SELECT b, COUNT(d)") + " FROM " + pick("t JOIN u ON ", "u JOIN t ON ") + pick("a = d", "d = a", "b = e", "a = 1", "1 = d", "a > d", "c = d AND a = 2")
			grouped := strings.HasPrefix(s, "SELECT b, C")
			if r.Intn(2) == 0 {
				s += " JOIN w ON " + pick("f = a", "d = f", "f = 2", "c = f")
			}
			if r.Intn(2) == 0 {
				s += " WHERE " + pick("a = 1", "b = 'x'", "d = 2", "NOT a = d", "e IS NULL", "c + d > 2", "a = c", "NULL = a")
			}
			if grouped {
				s += " GROUP BY b"
			}
			q, tables, all := b.query(s)
			want, e := algebra.Rows(q, all)
			check(t, "algebra", e, api.OK)
			for _, p := range append(plans(q, tables), Make(q, tables)) {
				if !right(q, tables, p) {
					if _, e := Run(b.p, q, tables, p); e != api.ErrArg {
						t.Fatal(s, p, e)
					}
					continue
				}
				runs++
				if got, e := Run(b.p, q, tables, p); shown(got) != shown(want) || e != api.OK {
					t.Fatalf("%s by %v: %s, not %s %d", s, p, shown(got), shown(want), e)
				}
			}
		}
	}
	if runs < 500 {
		t.Error("too few plans:", runs)
	}
}
