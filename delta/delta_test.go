package delta

import (
	"math"
	"math/rand"
	"slices"
	"strconv"
	"strings"
	"testing"

	"wainscot/algebra"
	"wainscot/api"
	"wainscot/bag"
	"wainscot/parse"
	"wainscot/scope"
	"wainscot/value"
)

func num(n int64) api.Value { return api.Value{Kind: api.Int, N: n} }

func text(s string) api.Value { return api.Value{Kind: api.Text, S: s} }

func tables() []api.Table {
	return []api.Table{
		{Name: "t", Columns: []api.Column{{Name: "a", Kind: api.Int}, {Name: "b", Kind: api.Int}, {Name: "s", Kind: api.Text}}},
		{Name: "u", Columns: []api.Column{{Name: "c", Kind: api.Int}, {Name: "d", Kind: api.Text}}},
	}
}

func check(t *testing.T, what string, got, want api.Errno) {
	t.Helper()
	if got != want {
		t.Fatalf("%s: %d, not %d", what, got, want)
	}
}

func query(t *testing.T, s string) scope.Query {
	t.Helper()
	p, e := parse.Read(s)
	check(t, s, e, api.OK)
	q, e := scope.Resolve(tables(), p.Query)
	check(t, s, e, api.OK)
	return q
}

func view(t *testing.T, s string) *View {
	t.Helper()
	v, e := New(query(t, s))
	check(t, s, e, api.OK)
	return v
}

// word reads a value: N is NULL, a number, or else a text.
func word(s string) api.Value {
	if n, e := strconv.ParseInt(s, 10, 64); e == nil {
		return num(n)
	}
	switch s {
	case "N":
		return api.Value{}
	case "MAX":
		return num(math.MaxInt64)
	case "LEAST":
		return num(math.MinInt64)
	}
	return text(s)
}

func row(s string) []api.Value {
	var l []api.Value
	for _, w := range strings.Fields(s) {
		l = append(l, word(w))
	}
	return l
}

func rows(list ...string) [][]api.Value {
	var l [][]api.Value
	for _, s := range list {
		l = append(l, row(s))
	}
	return l
}

func shownRow(row []api.Value) string {
	var l []string
	for _, v := range row {
		switch v.Kind {
		case api.Null:
			l = append(l, "N")
		case api.Int:
			l = append(l, strconv.FormatInt(v.N, 10))
		default:
			l = append(l, v.S)
		}
	}
	return strings.Join(l, " ")
}

func shown(rows [][]api.Value) string {
	var l []string
	for _, r := range rows {
		l = append(l, shownRow(r))
	}
	return strings.Join(l, "; ")
}

// entries writes them: the key, N, and the sums.
func entries(list []Entry) string {
	var l []string
	for _, e := range list {
		s := shownRow(e.Key) + " *" + strconv.FormatInt(e.N, 10)
		for _, sum := range e.Sums {
			s += " (" + strconv.FormatInt(sum.N, 10) + " " + strconv.FormatInt(sum.Total, 10) + ")"
		}
		l = append(l, s)
	}
	return strings.Join(l, "; ")
}

func TestNew(t *testing.T) {
	for _, s := range []string{
		"SELECT a FROM t", "SELECT * FROM t", "SELECT a + 1, s FROM t WHERE b > 0", "SELECT a, d FROM t JOIN u ON a = c", "SELECT a, COUNT(*), SUM(b), COUNT(s) FROM t GROUP BY a", "SELECT COUNT(*) FROM t GROUP BY a, s", "SELECT a + 1 FROM t GROUP BY s, a + 1", "SELECT a FROM t GROUP BY a", "SELECT a, a, SUM(a + b) FROM t GROUP BY a", "SELECT d, SUM(c) FROM u JOIN t ON a = c GROUP BY d", "SELECT 7 FROM t",
	} {
		v, e := New(query(t, s))
		if e != api.OK || len(v.Entries()) != 0 {
			t.Error(s, e)
		}
	}
	for _, s := range []string{
		"SELECT DISTINCT a FROM t", "SELECT a FROM t ORDER BY a", "SELECT a FROM t LIMIT 5", "SELECT a FROM t LIMIT 0", "SELECT x.a FROM t AS x JOIN t AS y ON x.a = y.a", "SELECT a FROM t JOIN u ON a = u.c JOIN u AS w ON w.c = a", "SELECT COUNT(*) FROM t", "SELECT SUM(a) FROM t", "SELECT MIN(b) FROM t GROUP BY a", "SELECT MAX(b), a FROM t GROUP BY a", "SELECT a + 1 FROM t GROUP BY a", "SELECT 1 FROM t GROUP BY a", "SELECT COUNT(*) + 1 FROM t GROUP BY a", "SELECT -SUM(b) FROM t GROUP BY a", "SELECT a FROM t GROUP BY a ORDER BY a", "SELECT a, COUNT(*) FROM t GROUP BY a LIMIT 1",
	} {
		if v, e := New(query(t, s)); v != nil || e != api.ErrState {
			t.Error(s, e)
		}
	}
	if v, e := New(scope.Query{Limit: -1}); v != nil || e != api.ErrState {
		t.Error(e)
	}
}

func TestFill(t *testing.T) {
	x := rows("1 5 p", "2 N q", "1 6 p", "N 7 N", "1 N q")
	y := rows("1 k", "1 l", "3 m")
	for _, c := range []struct {
		s, entries, rows string
		tables           [][][]api.Value
	}{
		{"SELECT a FROM t", "N *1; 1 *3; 2 *1", "N; 1; 1; 1; 2", [][][]api.Value{x}},
		{"SELECT s, a FROM t WHERE b > 0", "N N *1; p 1 *2", "N N; p 1; p 1", [][][]api.Value{x}},
		{"SELECT a, COUNT(*), SUM(b), COUNT(s) FROM t GROUP BY a", "N *1 (1 0) (1 7) (0 0); 1 *3 (3 0) (2 11) (3 0); 2 *1 (1 0) (0 0) (1 0)", "N 1 7 0; 1 3 11 3; 2 1 N 1", [][][]api.Value{x}},
		{"SELECT SUM(b) FROM t GROUP BY s, a", "N N *1 (1 7); p 1 *2 (2 11); q 1 *1 (0 0); q 2 *1 (0 0)", "N; N; 7; 11", [][][]api.Value{x}},
		{"SELECT COUNT(*), a FROM t GROUP BY a", "N *1 (1 0); 1 *3 (3 0); 2 *1 (1 0)", "1 N; 1 2; 3 1", [][][]api.Value{x}},
		{"SELECT s, d FROM t JOIN u ON a = c", "p k *2; p l *2; q k *1; q l *1", "p k; p k; p l; p l; q k; q l", [][][]api.Value{x, y}},
		{"SELECT d, SUM(b), COUNT(*) FROM u JOIN t ON a = c GROUP BY d", "k *3 (2 11) (3 0); l *3 (2 11) (3 0)", "k 11 3; l 11 3", [][][]api.Value{y, x}},
		{"SELECT a FROM t WHERE a > 9", "", "", [][][]api.Value{x}},
		{"SELECT a, COUNT(*) FROM t GROUP BY a", "", "", [][][]api.Value{nil}},
		{"SELECT 7 FROM t", "7 *5", "7; 7; 7; 7; 7", [][][]api.Value{x}},
	} {
		v := view(t, c.s)
		check(t, c.s, v.Fill(c.tables), api.OK)
		check(t, c.s, v.Fill(c.tables), api.OK)
		if got := entries(v.Entries()); got != c.entries {
			t.Errorf("%s: %s", c.s, got)
		}
		if got, e := v.Rows(); shown(got) != c.rows || e != api.OK {
			t.Errorf("%s: %s %d", c.s, shown(got), e)
		}
	}
}

func TestFillWrong(t *testing.T) {
	v := view(t, "SELECT a, SUM(b) FROM t WHERE s = 'x' GROUP BY a")
	check(t, "fill", v.Fill([][][]api.Value{rows("1 2 x")}), api.OK)
	before := entries(v.Entries())
	for i, c := range []struct {
		tables [][][]api.Value
		e      api.Errno
	}{
		{nil, api.ErrArg}, {[][][]api.Value{nil, nil}, api.ErrArg}, {[][][]api.Value{{nil}}, api.ErrArg}, {[][][]api.Value{rows("1 2 3")}, api.ErrArg}, {[][][]api.Value{{{num(1), {Kind: 9}, text("x")}}}, api.ErrArg}, {[][][]api.Value{{{num(1), text("q"), text("x")}}}, api.ErrArg},
		{[][][]api.Value{rows("1 MAX x", "1 1 x")}, api.ErrOver}, {[][][]api.Value{rows("1 LEAST x", "1 -1 x")}, api.ErrOver},
	} {
		if e := v.Fill(c.tables); e != c.e || entries(v.Entries()) != before {
			t.Error(i, e)
		}
	}
	check(t, "all of it together", v.Fill([][][]api.Value{rows("1 MAX x", "1 1 x", "1 -1 x", "2 MAX x")}), api.OK)
	w := view(t, "SELECT a + b FROM t WHERE a * b > 0")
	check(t, "a worth", w.Fill([][][]api.Value{rows("MAX 1 x")}), api.ErrOver)
	check(t, "a condition's worth", w.Fill([][][]api.Value{rows("MAX -2 x")}), api.ErrOver)
	check(t, "not looked at", w.Fill([][][]api.Value{rows("MAX 0 x")}), api.OK)
	count := view(t, "SELECT s, COUNT(a + b) FROM t GROUP BY s")
	check(t, "a counted worth", count.Fill([][][]api.Value{rows("MAX 1 x")}), api.ErrOver)
}

// more is a bag of rows with how many times each is there.
func more(t *testing.T, pairs ...any) *bag.Bag {
	t.Helper()
	b := bag.New()
	for i := 0; i < len(pairs); i += 2 {
		check(t, "add", b.Add(row(pairs[i].(string)), int64(pairs[i+1].(int))), api.OK)
	}
	return b
}

func TestChange(t *testing.T) {
	v := view(t, "SELECT a, COUNT(*), SUM(b) FROM t GROUP BY a")
	check(t, "fill", v.Fill([][][]api.Value{rows("1 5 x", "1 N x", "2 3 x")}), api.OK)
	for _, c := range []struct {
		d    *bag.Bag
		want string
	}{
		{more(t, "1 2 x", 1), "1 *3 (3 0) (2 7); 2 *1 (1 0) (1 3)"},
		{more(t, "0 1 x", 2, "2 3 x", -1), "0 *2 (2 0) (2 2); 1 *3 (3 0) (2 7)"},
		{more(t, "1 2 x", -1, "1 9 x", 1), "0 *2 (2 0) (2 2); 1 *3 (3 0) (2 14)"},
		{more(t, "1 N x", -1, "N 4 x", 1), "N *1 (1 0) (1 4); 0 *2 (2 0) (2 2); 1 *2 (2 0) (2 14)"},
		{bag.New(), "N *1 (1 0) (1 4); 0 *2 (2 0) (2 2); 1 *2 (2 0) (2 14)"},
		{more(t, "1 5 x", -1, "1 9 x", -1, "0 1 x", -2), "N *1 (1 0) (1 4)"},
		{more(t, "N 4 x", -1), ""},
	} {
		check(t, "change", v.Change(0, c.d, nil), api.OK)
		if got := entries(v.Entries()); got != c.want {
			t.Errorf("%s, not %s", got, c.want)
		}
	}
}

func TestChangeOfTwo(t *testing.T) {
	v := view(t, "SELECT s, d FROM t JOIN u ON a = c")
	x, y := rows("1 1 p", "2 2 q"), rows("1 k", "1 l")
	check(t, "fill", v.Fill([][][]api.Value{x, y}), api.OK)
	check(t, "change", v.Change(1, more(t, "2 k", 3, "1 l", -1, "9 z", 1), x), api.OK)
	if got := entries(v.Entries()); got != "p k *1; q k *3" {
		t.Error(got)
	}
	check(t, "change", v.Change(0, more(t, "2 2 q", -1, "2 5 r", 2), rows("1 k", "2 k", "2 k", "2 k", "9 z")), api.OK)
	if got := entries(v.Entries()); got != "p k *1; r k *6" {
		t.Error(got)
	}
}

func TestChangeWrong(t *testing.T) {
	one := view(t, "SELECT a, SUM(b) FROM t GROUP BY a")
	check(t, "fill", one.Fill([][][]api.Value{rows("1 5 x", "2 MAX x", "3 LEAST x", "4 N x")}), api.OK)
	two := view(t, "SELECT a + c FROM t JOIN u ON b = c")
	check(t, "fill", two.Fill([][][]api.Value{rows("1 2 x"), rows("2 k")}), api.OK)
	for i, c := range []struct {
		v      *View
		source int
		d      *bag.Bag
		other  [][]api.Value
		e      api.Errno
	}{
		{one, 1, bag.New(), nil, api.ErrArg}, {one, -1, bag.New(), nil, api.ErrArg}, {two, 2, bag.New(), nil, api.ErrArg}, {one, math.MaxInt, bag.New(), nil, api.ErrArg}, {one, 0, nil, nil, api.ErrArg}, {one, 0, bag.New(), rows("1 k"), api.ErrArg}, {one, 0, more(t, "1", 1), nil, api.ErrArg}, {one, 0, more(t, "1 x x", 1), nil, api.ErrArg}, {two, 0, more(t, "1 2 x", 1), rows("k k"), api.ErrArg},
		{one, 0, more(t, "2 1 x", 1), nil, api.ErrOver}, {one, 0, more(t, "3 -1 x", 1), nil, api.ErrOver}, {one, 0, more(t, "9 MAX x", 2), nil, api.ErrOver}, {one, 0, more(t, "3 1 x", -1, "2 MAX x", 1), nil, api.ErrOver}, {one, 0, more(t, "1 0 x", math.MaxInt), nil, api.ErrOver}, {one, 0, more(t, "5 1 x", -1, "9 MAX x", 2), nil, api.ErrOver}, {two, 0, more(t, "MAX 2 x", 1), rows("2 k"), api.ErrOver}, {two, 0, more(t, "MAX 2 x", -1), rows("2 k"), api.ErrOver}, {two, 0, more(t, "1 2 x", math.MaxInt), rows("2 k", "2 l"), api.ErrOver},
		{one, 0, more(t, "5 1 x", -1), nil, api.ErrState}, {one, 0, more(t, "1 1 x", -2), nil, api.ErrState}, {one, 0, more(t, "9 1 x", 1, "5 N x", -1), nil, api.ErrState}, {one, 0, more(t, "4 1 x", -1, "4 N x", 5), nil, api.ErrState}, {two, 1, more(t, "2 k", -2), rows("1 2 x"), api.ErrState},
	} {
		before := entries(c.v.Entries())
		if e := c.v.Change(c.source, c.d, c.other); e != c.e || entries(c.v.Entries()) != before {
			t.Error(i, e, entries(c.v.Entries()))
		}
	}
	// What is beyond the bounds on the way alone is no error.
	check(t, "together", one.Change(0, more(t, "2 1 x", 1, "2 -1 x", 1), nil), api.OK)
	check(t, "together with what was", one.Change(0, more(t, "3 MAX x", 1, "3 5 x", 1), nil), api.OK)
	check(t, "many times", one.Change(0, more(t, "6 0 x", math.MaxInt), nil), api.OK)
	check(t, "the least taken out", one.Change(0, more(t, "3 LEAST x", -1), nil), api.ErrOver)
	if got := entries(one.Entries()); got != "1 *1 (1 5); 2 *3 (3 9223372036854775807); 3 *3 (3 4); 4 *1 (0 0); 6 *9223372036854775807 (9223372036854775807 0)" {
		t.Error(got)
	}
}

func TestLoad(t *testing.T) {
	v := view(t, "SELECT a, SUM(b) FROM t GROUP BY a")
	good := []Entry{{row("N"), 1, []Sum{{0, 0}}}, {row("1"), 2, []Sum{{2, 9}}}, {row("x"), math.MaxInt64, []Sum{{1, -1}}}}
	check(t, "load", v.Load(good), api.OK)
	want := "N *1 (0 0); 1 *2 (2 9); x *9223372036854775807 (1 -1)"
	if got := entries(v.Entries()); got != want {
		t.Error(got)
	}
	if got, e := v.Rows(); shown(got) != "N N; 1 9; x -1" || e != api.OK {
		t.Error(shown(got), e)
	}
	for i, change := range []func(l []Entry){
		func(l []Entry) { l[0].N = 0 }, func(l []Entry) { l[2].N = -1 }, func(l []Entry) { l[1].N = math.MinInt64 }, func(l []Entry) { l[1].Key = l[0].Key }, func(l []Entry) { l[1].Key = row("y") }, func(l []Entry) { l[0].Sums = nil }, func(l []Entry) { l[2].Sums = make([]Sum, 2) },
	} {
		l := slices.Clone(good)
		change(l)
		if e := v.Load(l); e != api.ErrBad || entries(v.Entries()) != want {
			t.Error(i, e)
		}
	}
	l := cloneEntries(good)
	check(t, "load", v.Load(l), api.OK)
	l[0].Key[0], l[1].Sums[0].N, l[2].N = num(3), 77, 5
	v.Entries()[0].Key[0] = num(4)
	if got := entries(v.Entries()); got != want {
		t.Error("shared:", got)
	}
	// Keys that are too short, or no values at all, are loaded as they are; what isn't there is told as NULL.
	two := view(t, "SELECT a, b, COUNT(*) FROM t GROUP BY a, b")
	check(t, "load", two.Load([]Entry{{nil, 1, []Sum{{1, 0}}}, {row("1"), 2, []Sum{{2, 0}}}}), api.OK)
	if got, e := two.Rows(); shown(got) != "N N 1; 1 N 2" || e != api.OK {
		t.Error(shown(got), e)
	}
	check(t, "load nothing", v.Load(nil), api.OK)
	if len(v.Entries()) != 0 {
		t.Error("entries are left")
	}
}

func TestRowsLarge(t *testing.T) {
	v := view(t, "SELECT a FROM t")
	for _, c := range []struct {
		n []int64
		e api.Errno
	}{{[]int64{100000}, api.OK}, {[]int64{100001}, api.ErrLarge}, {[]int64{99999, 1}, api.OK}, {[]int64{99999, 2}, api.ErrLarge}, {[]int64{math.MaxInt64, math.MaxInt64, math.MaxInt64}, api.ErrLarge}} {
		var l []Entry
		for i, n := range c.n {
			l = append(l, Entry{Key: []api.Value{num(int64(i))}, N: n})
		}
		check(t, "load", v.Load(l), api.OK)
		if got, e := v.Rows(); e != c.e || (len(got) == api.MaxCombos) != (e == api.OK) {
			t.Error(c, len(got), e)
		}
	}
	g := view(t, "SELECT a FROM t GROUP BY a")
	check(t, "load", g.Load([]Entry{{Key: row("1"), N: math.MaxInt64}}), api.OK)
	if got, e := g.Rows(); shown(got) != "1" || e != api.OK {
		t.Error(shown(got), e)
	}
}

func TestNil(t *testing.T) {
	for _, v := range []*View{nil, {}} {
		_, e := v.Rows()
		for _, e := range []api.Errno{v.Fill(nil), v.Change(0, bag.New(), nil), v.Load(nil), e} {
			check(t, "call", e, api.ErrArg)
		}
		if v.Entries() != nil {
			t.Error("nil isn't zero")
		}
	}
}

// The query that a view was made of may change: the view doesn't.
func TestQueryIsNotKept(t *testing.T) {
	q := query(t, "SELECT a + 1, COUNT(*), SUM(b * 2) FROM t WHERE a > 0 GROUP BY a + 1")
	v, e := New(q)
	check(t, "new", e, api.OK)
	q.Conditions[0].Parts[0].Column = 7
	q.Group[0].Parts[0].Column = 7
	q.Items[2].Parts[0].Parts[0].Column = 7
	check(t, "fill", v.Fill([][][]api.Value{rows("1 5 x")}), api.OK)
	if got := entries(v.Entries()); got != "2 *1 (1 0) (1 10)" {
		t.Error(got)
	}
}

// follower keeps tables as bags, beside views that follow them.
func TestFollows(t *testing.T) {
	r := rand.New(rand.NewSource(19))
	for _, s := range []string{
		"SELECT a, s FROM t WHERE b > 1 OR b IS NULL", "SELECT a, COUNT(*), SUM(b), COUNT(b) FROM t GROUP BY a", "SELECT s, a + b, SUM(a) FROM t WHERE NOT a = 2 GROUP BY a + b, s", "SELECT a, d FROM t JOIN u ON a = c", "SELECT d, COUNT(*), SUM(a + c), COUNT(d) FROM u JOIN t ON b < c GROUP BY d", "SELECT SUM(c) FROM t JOIN u ON a = c GROUP BY s, d", "SELECT 1 FROM t JOIN u ON s = d",
	} {
		q := query(t, s)
		v := view(t, s)
		have := []*bag.Bag{bag.New(), bag.New()}
		for range 150 {
			source := r.Intn(len(q.Sources))
			table := q.Sources[source]
			d := bag.New()
			for range r.Intn(4) {
				if old := have[table].Entries(); len(old) > 0 && r.Intn(2) == 0 {
					check(t, "take out", d.Add(old[r.Intn(len(old))].Row, -1), api.OK)
				} else {
					check(t, "put in", d.Add(randomRow(r, table), 1+int64(r.Intn(2))), api.OK)
				}
			}
			next := bag.New()
			next.Join(have[table], 1)
			next.Join(d, 1)
			if _, e := next.Rows(); e != api.OK {
				continue
			}
			var other [][]api.Value
			if len(q.Sources) == 2 {
				other, _ = have[q.Sources[1-source]].Rows()
			}
			check(t, s, v.Change(source, d, other), api.OK)
			have[table] = next
			follows(t, s, v, q, have)
		}
	}
}

func randomRow(r *rand.Rand, table int) []api.Value {
	if table == 0 {
		return row([]string{"N", "1", "2", "3"}[r.Intn(4)] + " " + []string{"N", "1", "2", "-3"}[r.Intn(4)] + " " + []string{"N", "x", "y"}[r.Intn(3)])
	}
	return row([]string{"N", "1", "2", "3"}[r.Intn(4)] + " " + []string{"N", "x", "y"}[r.Intn(3)])
}

// follows asks whether a view has what its query means, and what Fill makes of it.
func follows(t *testing.T, s string, v *View, q scope.Query, have []*bag.Bag) {
	t.Helper()
	var all [][][]api.Value
	for _, source := range q.Sources {
		list, e := have[source].Rows()
		check(t, "rows", e, api.OK)
		all = append(all, list)
	}
	want, e := algebra.Rows(q, all)
	check(t, "algebra", e, api.OK)
	got, e := v.Rows()
	check(t, "rows", e, api.OK)
	if !slices.EqualFunc(got, want, func(a, b []api.Value) bool { return value.Rows(a, b) == 0 }) {
		t.Fatalf("%s: %s, not %s", s, shown(got), shown(want))
	}
	w := view(t, s)
	check(t, "fill", w.Fill(all), api.OK)
	if entries(w.Entries()) != entries(v.Entries()) {
		t.Fatalf("%s: %s, not %s", s, entries(v.Entries()), entries(w.Entries()))
	}
	for _, e := range v.Entries() {
		if e.N <= 0 {
			t.Fatal(e)
		}
	}
}
