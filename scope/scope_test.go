package scope

import (
	"math"
	"slices"
	"strconv"
	"strings"
	"testing"

	"wainscot/api"
	"wainscot/expr"
	"wainscot/parse"
)

func tables() []api.Table {
	return []api.Table{
		{Name: "t", Columns: []api.Column{{Name: "a", Kind: api.Int}, {Name: "b", Kind: api.Text}, {Name: "c", Kind: api.Int}}},
		{Name: "u", Columns: []api.Column{{Name: "a", Kind: api.Text}, {Name: "d", Kind: api.Int}}},
		{Name: "v", View: true, Columns: []api.Column{{Name: "n", Kind: api.Null}, {Name: "m", Kind: api.Text}}},
	}
}

func ex(t *testing.T, s string) expr.Expr {
	t.Helper()
	e, errno := expr.Parse(s)
	if errno != api.OK {
		t.Fatal(s, errno)
	}
	return e
}

func query(t *testing.T, s string) parse.Query {
	t.Helper()
	q, e := parse.Read(s)
	if e != api.OK {
		t.Fatal(s, e)
	}
	return q.Query
}

// shown writes a cell: columns as their source and number, all else in brackets.
func shown(c Cell) string {
	switch c.Kind {
	case 1:
		if c.V.Kind == api.Text {
			return "'" + c.V.S + "'"
		}
		if c.V.Kind == api.Int {
			return strconv.FormatInt(c.V.N, 10)
		}
		return "NULL"
	case 2:
		return strconv.Itoa(c.Source) + "." + strconv.Itoa(c.Column)
	}
	l := []string{strconv.Itoa(c.Kind) + c.Op}
	for _, p := range c.Parts {
		l = append(l, shown(p))
	}
	return "(" + strings.Join(l, " ") + ")"
}

func showAll(l []Cell) string {
	var s []string
	for _, c := range l {
		s = append(s, shown(c))
	}
	return strings.Join(s, ", ")
}

func TestValue(t *testing.T) {
	for _, c := range []struct {
		sources []int
		s, cell string
		kind    int
	}{
		{nil, "1", "1", 1}, {nil, "'x'", "'x'", 2}, {nil, "NULL", "NULL", 0}, {nil, "1 + 2 * NULL", "(4+ 1 (4* 2 NULL))", 1}, {nil, "NULL = NULL", "(4= NULL NULL)", 3}, {nil, "-NULL", "(3- NULL)", 1}, {nil, "'a' < NULL", "(4< 'a' NULL)", 3}, {nil, "NULL >= 1", "(4>= NULL 1)", 3},
		{[]int{0}, "a", "0.0", 1}, {[]int{0}, "b", "0.1", 2}, {[]int{0}, "t.c", "0.2", 1}, {[]int{2}, "n", "0.0", 0}, {[]int{2}, "n + 1", "(4+ 0.0 1)", 1}, {[]int{2}, "n = m", "(4= 0.0 0.1)", 3}, {[]int{2}, "n = 1", "(4= 0.0 1)", 3},
		{[]int{0, 1}, "t.a", "0.0", 1}, {[]int{0, 1}, "u.a", "1.0", 2}, {[]int{0, 1}, "d", "1.1", 1}, {[]int{0, 1}, "b = u.a", "(4= 0.1 1.0)", 3}, {[]int{1, 0}, "t.a + d", "(4+ 1.0 0.1)", 1}, {[]int{0, 0}, "t.a", "0.0", 1},
		{[]int{0}, "NOT a = 1 AND b IS NULL OR c IS NOT NULL", "(4OR (4AND (3NOT (4= 0.0 1)) (5IS NULL 0.1)) (5IS NOT NULL 0.2))", 3}, {[]int{0}, "-a - c", "(4- (3- 0.0) 0.2)", 1}, {[]int{0}, "a <> c", "(4<> 0.0 0.2)", 3},
	} {
		cell, kind, e := Value(tables(), c.sources, ex(t, c.s))
		if shown(cell) != c.cell || kind != c.kind || e != api.OK {
			t.Errorf("%s: %s %d %d", c.s, shown(cell), kind, e)
		}
	}
}

func TestValueErrors(t *testing.T) {
	for _, c := range []struct {
		sources []int
		s       string
		e       api.Errno
	}{
		{nil, "a", api.ErrName}, {[]int{0}, "d", api.ErrName}, {[]int{0}, "u.a", api.ErrName}, {[]int{0}, "t.d", api.ErrName}, {[]int{0, 1}, "a", api.ErrName}, {[]int{0, 0}, "b", api.ErrName}, {[]int{0, 1}, "t.d", api.ErrName}, {[]int{1, 0}, "x.a", api.ErrName},
		{nil, "1 + 'a'", api.ErrType}, {nil, "'a' * 1", api.ErrType}, {nil, "-'a'", api.ErrType}, {nil, "1 - (1 = 1)", api.ErrType}, {nil, "-(1 = 1)", api.ErrType}, {nil, "1 = 'a'", api.ErrType}, {nil, "(1 = 1) = (1 = 1)", api.ErrType}, {nil, "NULL = (1 = 1)", api.ErrType}, {nil, "(1 = 1) < 1", api.ErrType}, {nil, "(1 = 1) IS NULL", api.ErrType}, {nil, "(1 = 1) IS NOT NULL", api.ErrType}, {nil, "NOT 1", api.ErrType}, {nil, "NOT NULL", api.ErrType}, {nil, "1 = 1 AND 1", api.ErrType}, {nil, "NULL OR 1 = 1", api.ErrType}, {nil, "'a' AND 'b'", api.ErrType},
		{nil, "COUNT(*)", api.ErrType}, {[]int{0}, "SUM(a)", api.ErrType}, {[]int{0}, "1 + MIN(a)", api.ErrType},
		{[]int{0}, "1 + 'a' + zzz", api.ErrType}, {[]int{0}, "zzz + (1 + 'a')", api.ErrName}, {[]int{0}, "COUNT(zzz)", api.ErrName}, {[]int{0}, "COUNT(*) + zzz", api.ErrType}, {[]int{0}, "zzz + COUNT(*)", api.ErrName}, {[]int{0}, "NOT zzz", api.ErrName}, {[]int{0}, "NOT a AND zzz", api.ErrType}, {[]int{0}, "b + zzz", api.ErrName}, {[]int{0}, "-b + zzz", api.ErrType},
	} {
		if cell, kind, e := Value(tables(), c.sources, ex(t, c.s)); e != c.e || kind != 0 || !Same(cell, Cell{}) {
			t.Errorf("%s: %v %d %d", c.s, cell, kind, e)
		}
	}
	for _, sources := range [][]int{{3}, {-1}, {0, 3}, {math.MaxInt}, {math.MinInt}} {
		if cell, kind, e := Value(tables(), sources, ex(t, "zzz")); e != api.ErrArg || kind != 0 || !Same(cell, Cell{}) {
			t.Error(sources, e)
		}
	}
	for _, bad := range []expr.Expr{{}, {Kind: 7}, {Kind: 3, Op: "-"}, {Kind: 4, Op: "+", Parts: []expr.Expr{{Kind: 2, Column: "zzz"}, {}}}} {
		if _, _, e := Value(tables(), []int{0}, bad); e != api.ErrArg {
			t.Error(bad, e)
		}
	}
}

func TestFind(t *testing.T) {
	l := append(tables(), tables()...)
	for name, want := range map[string]int{"t": 0, "u": 1, "v": 2, "": -1, "T": -1, "x": -1} {
		if got := Find(l, name); got != want {
			t.Error(name, got)
		}
	}
	if Find(nil, "t") != -1 {
		t.Error("no tables")
	}
}

func TestSums(t *testing.T) {
	for s, want := range map[string]bool{"1": false, "a": false, "a = 1": false, "NOT a = 1": false, "a IS NULL": false, "a = 1 AND c = 2": false, "a + 1": true, "a - 1": true, "a * 1": true, "-a": true, "a = 1 OR c = -1": true, "(c * 1) IS NULL": true, "NOT a = c + 1": true} {
		c, _, e := Value(tables(), []int{0}, ex(t, s))
		if e != api.OK || Sums(c) != want {
			t.Error(s, e, Sums(c))
		}
	}
	if Sums(Cell{}) || Sums(Cell{Kind: 6, Op: "SUM", Parts: []Cell{{Kind: 2}}}) || !Sums(Cell{Kind: 6, Op: "COUNT", Parts: []Cell{{Kind: 3, Op: "-", Parts: []Cell{{Kind: 2}}}}}) {
		t.Error("aggregates")
	}
}

func TestTruthful(t *testing.T) {
	for _, s := range []string{"1", "'a'", "NULL", "a", "-a", "a + 1", "a = 1", "NOT a = 1", "a IS NULL", "a = 1 AND c = 2", "a = 1 OR c = 2"} {
		c, kind, e := Value(tables(), []int{0}, ex(t, s))
		if e != api.OK || Truthful(c) != (kind == Truth) {
			t.Error(s, e)
		}
	}
	if Truthful(Cell{}) || Truthful(Cell{Kind: 6, Op: "COUNT"}) {
		t.Error("no truths")
	}
}

func TestSame(t *testing.T) {
	l := []Cell{{}, {Kind: 1}, {Kind: 1, V: api.Value{Kind: 1, N: 1}}, {Kind: 1, V: api.Value{Kind: 2, S: "a"}}, {Kind: 2}, {Kind: 2, Source: 1}, {Kind: 2, Column: 1}, {Kind: 3, Op: "-"}, {Kind: 3, Op: "NOT"}, {Kind: 3, Op: "-", Parts: []Cell{{}}}, {Kind: 3, Op: "-", Parts: []Cell{{Kind: 2}}}, {Kind: 3, Op: "-", Parts: []Cell{{}, {}}}}
	for i, a := range l {
		for k, b := range l {
			if Same(a, b) != (i == k) {
				t.Error(i, k)
			}
		}
	}
	if !Same(Cell{Parts: []Cell{}}, Cell{}) {
		t.Error("no parts: nil and empty differ")
	}
}

func TestResolve(t *testing.T) {
	for _, c := range []struct {
		s, sources, conditions, group, items, names, kinds, order string
		grouped, distinct                                         bool
		limit                                                     int64
	}{
		{s: "SELECT a + 1 FROM t", sources: "[0]", items: "(4+ 0.0 1)", names: ";", kinds: "[1]", limit: -1},
		{s: "SELECT * FROM t", sources: "[0]", items: "0.0, 0.1, 0.2", names: "a;b;c;", kinds: "[1 2 1]", limit: -1},
		{s: "SELECT * FROM u JOIN v AS w ON d = w.n LIMIT 0", sources: "[1 2]", conditions: "(4= 0.1 1.0)", items: "0.0, 0.1, 1.0, 1.1", names: "a;d;n;m;", kinds: "[2 1 0 2]"},
		{s: "SELECT DISTINCT b AS x, t.a, 'k' FROM t WHERE a > 1 ORDER BY a DESC, b LIMIT 5", sources: "[0]", conditions: "(4> 0.0 1)", items: "0.1, 0.0, 'k'", names: "x;a;;", kinds: "[2 1 2]", order: "0.0 DESC, 0.1", distinct: true, limit: 5},
		{s: "SELECT x.a, y.a FROM t AS x JOIN t AS y ON x.a = y.c JOIN u ON y.b = u.a WHERE d IS NULL", sources: "[0 0 1]", conditions: "(4= 0.0 1.2), (4= 1.1 2.0), (5IS NULL 2.1)", items: "0.0, 1.0", names: "a;a;", kinds: "[1 1]", limit: -1},
		{s: "SELECT x.a FROM t AS x JOIN t AS y ON z.d = 1 JOIN u AS z ON x.a = 1", sources: "[0 0 1]", conditions: "(4= 2.1 1), (4= 0.0 1)", items: "0.0", names: "a;", kinds: "[1]", limit: -1},
		{s: "SELECT COUNT(*) FROM t", sources: "[0]", items: "(6COUNT)", names: ";", kinds: "[1]", grouped: true, limit: -1},
		{s: "SELECT a, COUNT(b) AS n, SUM(c), MIN(b), MAX(a) + 1 FROM t GROUP BY a", sources: "[0]", group: "0.0", items: "0.0, (6COUNT 0.1), (6SUM 0.2), (6MIN 0.1), (4+ (6MAX 0.0) 1)", names: "a;n;;;;", kinds: "[1 1 1 2 1]", grouped: true, limit: -1},
		{s: "SELECT a + 1, (a + 1) * 2, 7 FROM t GROUP BY a + 1, b ORDER BY b, SUM(a) DESC", sources: "[0]", group: "(4+ 0.0 1), 0.1", items: "(4+ 0.0 1), (4* (4+ 0.0 1) 2), 7", names: ";;;", kinds: "[1 1 1]", order: "0.1, (6SUM 0.0) DESC", grouped: true, limit: -1},
		{s: "SELECT MAX(b), MIN(c) FROM t", sources: "[0]", items: "(6MAX 0.1), (6MIN 0.2)", names: ";;", kinds: "[2 1]", grouped: true, limit: -1},
		{s: "SELECT 1 FROM t ORDER BY COUNT(*)", sources: "[0]", items: "1", names: ";", kinds: "[1]", order: "(6COUNT)", grouped: true, limit: -1},
		{s: "SELECT t.a FROM t GROUP BY a", sources: "[0]", group: "0.0", items: "0.0", names: "a;", kinds: "[1]", grouped: true, limit: -1},
		{s: "SELECT NULL AS x, MIN(n), SUM(n), COUNT(n) FROM v", sources: "[2]", items: "NULL, (6MIN 0.0), (6SUM 0.0), (6COUNT 0.0)", names: "x;;;;", kinds: "[0 0 1 1]", grouped: true, limit: -1},
		{s: "SELECT DISTINCT COUNT(*), a FROM t GROUP BY a ORDER BY a, COUNT(*)", sources: "[0]", group: "0.0", items: "(6COUNT), 0.0", names: ";a;", kinds: "[1 1]", order: "0.0, (6COUNT)", grouped: true, distinct: true, limit: -1},
		{s: "SELECT DISTINCT * FROM t ORDER BY t.c", sources: "[0]", items: "0.0, 0.1, 0.2", names: "a;b;c;", kinds: "[1 2 1]", order: "0.2", distinct: true, limit: -1},
	} {
		q, e := Resolve(tables(), query(t, c.s))
		if e != api.OK {
			t.Errorf("%s: %d", c.s, e)
			continue
		}
		var order []string
		for _, o := range q.Order {
			order = append(order, shown(o.C)+map[bool]string{true: " DESC"}[o.Desc])
		}
		names := strings.Join(append(slices.Clone(q.Names), ""), ";")
		numbers := func(l []int) string {
			var s []string
			for _, n := range l {
				s = append(s, strconv.Itoa(n))
			}
			return "[" + strings.Join(s, " ") + "]"
		}
		for i, pair := range [][2]string{{numbers(q.Sources), c.sources}, {showAll(q.Conditions), c.conditions}, {showAll(q.Group), c.group}, {showAll(q.Items), c.items}, {names, c.names}, {numbers(q.Kinds), c.kinds}, {strings.Join(order, ", "), c.order}} {
			if pair[0] != pair[1] {
				t.Errorf("%s: %d: %s, not %s", c.s, i, pair[0], pair[1])
			}
		}
		if q.Grouped != c.grouped || q.Distinct != c.distinct || q.Limit != c.limit {
			t.Errorf("%s: %v %v %d", c.s, q.Grouped, q.Distinct, q.Limit)
		}
	}
}

func TestResolveErrors(t *testing.T) {
	for _, c := range []struct {
		s string
		e api.Errno
	}{
		{"SELECT a FROM x", api.ErrNone}, {"SELECT a FROM t JOIN x ON a", api.ErrNone}, {"SELECT zzz FROM t AS y JOIN t AS y ON 1 JOIN x ON 2", api.ErrNone},
		{"SELECT zzz FROM t JOIN t ON zzz", api.ErrExists}, {"SELECT a FROM t JOIN u AS t ON a", api.ErrExists}, {"SELECT a FROM t AS x JOIN u ON 1 JOIN v AS x ON 1", api.ErrExists},
		{"SELECT zzz FROM t WHERE a", api.ErrType}, {"SELECT 1 FROM t WHERE zzz", api.ErrName}, {"SELECT zzz FROM t WHERE COUNT(*) = 1", api.ErrType}, {"SELECT 1 FROM t JOIN u ON NULL WHERE zzz = 1", api.ErrType}, {"SELECT 1 FROM t JOIN u ON zzz = 1 WHERE 1", api.ErrName}, {"SELECT 1 FROM t JOIN u ON a = 1", api.ErrName}, {"SELECT 1 FROM t WHERE b = 1", api.ErrType}, {"SELECT 1 FROM t AS x WHERE t.a = 1", api.ErrName},
		{"SELECT zzz FROM t GROUP BY a = 1", api.ErrType}, {"SELECT b + 1 FROM t GROUP BY zzz", api.ErrName}, {"SELECT zzz FROM t GROUP BY COUNT(*)", api.ErrType}, {"SELECT 1 FROM t GROUP BY a = 1, zzz", api.ErrType},
		{"SELECT a = 1 FROM t ORDER BY zzz", api.ErrType}, {"SELECT zzz FROM t ORDER BY a = 1", api.ErrName}, {"SELECT a IS NULL, zzz FROM t", api.ErrType}, {"SELECT COUNT(a = 1) FROM t", api.ErrType}, {"SELECT SUM(b) FROM t", api.ErrType}, {"SELECT MIN(a = 1) FROM t", api.ErrType}, {"SELECT MAX(NOT a = 1) FROM t", api.ErrType}, {"SELECT SUM(a = 1) FROM t", api.ErrType},
		{"SELECT SUM(COUNT(*)) FROM t", api.ErrType}, {"SELECT MIN(1 + MAX(a)) FROM t", api.ErrType}, {"SELECT SUM(COUNT(a) + zzz) FROM t", api.ErrType}, {"SELECT SUM(zzz + COUNT(a)) FROM t", api.ErrName}, {"SELECT 1 FROM t ORDER BY SUM(COUNT(*))", api.ErrType},
		{"SELECT a FROM t ORDER BY a IS NULL", api.ErrType}, {"SELECT a FROM t ORDER BY zzz", api.ErrName}, {"SELECT a FROM t GROUP BY b ORDER BY -b", api.ErrType},
		{"SELECT a FROM t GROUP BY b", api.ErrName}, {"SELECT * FROM t GROUP BY a, b, c", api.ErrName}, {"SELECT * FROM t ORDER BY COUNT(*)", api.ErrName}, {"SELECT a, COUNT(*) FROM t", api.ErrName}, {"SELECT a + COUNT(*) FROM t", api.ErrName}, {"SELECT 1 FROM t GROUP BY a ORDER BY c", api.ErrName}, {"SELECT a FROM t ORDER BY COUNT(*)", api.ErrName}, {"SELECT a + 1 FROM t GROUP BY a + 2", api.ErrName}, {"SELECT a FROM t GROUP BY a + 1", api.ErrName}, {"SELECT 1 + a FROM t GROUP BY a + 1", api.ErrName}, {"SELECT COUNT(*) FROM t ORDER BY a", api.ErrName},
		{"SELECT DISTINCT a FROM t ORDER BY c", api.ErrName}, {"SELECT DISTINCT a FROM t ORDER BY a + 1", api.ErrName}, {"SELECT DISTINCT a FROM t ORDER BY a, c", api.ErrName}, {"SELECT DISTINCT a FROM t GROUP BY a, c ORDER BY c", api.ErrName}, {"SELECT DISTINCT 1 FROM t ORDER BY 2", api.ErrName},
	} {
		q, e := Resolve(tables(), query(t, c.s))
		if e != c.e || len(q.Sources)+len(q.Conditions)+len(q.Group)+len(q.Items)+len(q.Names)+len(q.Kinds)+len(q.Order) > 0 || q.Grouped || q.Distinct || q.Limit != 0 {
			t.Errorf("%s: %d", c.s, e)
		}
	}
}

// What isn't formed is told, or at least ends.
func TestResolveUnformed(t *testing.T) {
	good := func() parse.Query {
		return query(t, "SELECT a FROM t JOIN u ON d = 1 WHERE c = 1 GROUP BY a ORDER BY a")
	}
	for i, change := range []func(q *parse.Query){
		func(q *parse.Query) { q.Sources[1].On = expr.Expr{} }, func(q *parse.Query) { q.Where[0].Parts = nil }, func(q *parse.Query) { q.Group[0] = expr.Expr{Kind: 9} }, func(q *parse.Query) { q.Items[0].E = expr.Expr{} }, func(q *parse.Query) { q.Order[0].E = expr.Expr{Kind: 3} },
	} {
		q := good()
		q.Group, q.Items, q.Order = []expr.Expr{ex(t, "c")}, []parse.Item{{E: ex(t, "c")}}, []parse.Order{{E: ex(t, "c")}}
		change(&q)
		if _, e := Resolve(tables(), q); e != api.ErrArg {
			t.Error(i, e)
		}
	}
	Resolve(nil, parse.Query{})
	Resolve(tables(), parse.Query{Star: true, Items: make([]parse.Item, 2)})
}

// Tables whose columns have one name: the first one is found.
func TestNamesTwice(t *testing.T) {
	l := []api.Table{{Name: "t", Columns: []api.Column{{Name: "a", Kind: 2}, {Name: "a", Kind: 1}}}}
	c, kind, e := Value(l, []int{0}, ex(t, "a"))
	if shown(c) != "0.0" || kind != 2 || e != api.OK {
		t.Error(c, kind, e)
	}
}

func TestNothingIsShared(t *testing.T) {
	q, _ := Resolve(tables(), query(t, "SELECT a + 1 FROM t GROUP BY a + 1 ORDER BY a + 1"))
	q.Group[0].Parts[0].Column = 7
	if q.Items[0].Parts[0].Column != 0 || q.Order[0].C.Parts[0].Column != 0 {
		t.Error("cells share their parts")
	}
}
