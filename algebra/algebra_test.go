package algebra

import (
	"math"
	"slices"
	"strconv"
	"strings"
	"testing"

	"wainscot/api"
	"wainscot/expr"
	"wainscot/parse"
	"wainscot/scope"
)

func num(n int64) api.Value { return api.Value{Kind: api.Int, N: n} }

func text(s string) api.Value { return api.Value{Kind: api.Text, S: s} }

func tables() []api.Table {
	return []api.Table{
		{Name: "t", Columns: []api.Column{{Name: "a", Kind: api.Int}, {Name: "b", Kind: api.Text}, {Name: "c", Kind: api.Int}}},
		{Name: "u", Columns: []api.Column{{Name: "d", Kind: api.Int}, {Name: "e", Kind: api.Int}}},
		{Name: "v", View: true, Columns: []api.Column{{Name: "n", Kind: api.Null}}},
	}
}

// val reads a word: N is NULL, a number, or else a text; MAX and LEAST are the bounds of numbers.
func val(s string) api.Value {
	switch s {
	case "N":
		return api.Value{}
	case "MAX":
		return num(math.MaxInt64)
	case "LEAST":
		return num(math.MinInt64)
	}
	if n, e := strconv.ParseInt(s, 10, 64); e == nil {
		return num(n)
	}
	return text(s)
}

// list reads rows, a semicolon between them.
func list(s string) [][]api.Value {
	var rows [][]api.Value
	for _, part := range strings.Split(s, ";") {
		var row []api.Value
		for _, word := range strings.Fields(part) {
			row = append(row, val(word))
		}
		if len(row) > 0 {
			rows = append(rows, row)
		}
	}
	return rows
}

func shown(rows [][]api.Value) string {
	var l []string
	for _, row := range rows {
		var words []string
		for _, v := range row {
			switch {
			case v.Kind == api.Null:
				words = append(words, "N")
			case v.Kind == api.Text:
				words = append(words, v.S)
			default:
				words = append(words, strconv.FormatInt(v.N, 10))
			}
		}
		l = append(l, strings.Join(words, " "))
	}
	return strings.Join(l, "; ")
}

func resolved(t *testing.T, s string) scope.Query {
	t.Helper()
	p, e := parse.Read(s)
	if e != api.OK {
		t.Fatal(s, e)
	}
	q, e := scope.Resolve(tables(), p.Query)
	if e != api.OK {
		t.Fatal(s, e)
	}
	return q
}

func run(t *testing.T, s string, sources ...string) ([][]api.Value, api.Errno) {
	t.Helper()
	var all [][][]api.Value
	for _, rows := range sources {
		all = append(all, list(rows))
	}
	return Rows(resolved(t, s), all)
}

func TestRows(t *testing.T) {
	x := "1 x 5; 2 y N; 3 x 7; N z 5"
	d := "1 10; 3 30; 3 31"
	for _, c := range []struct {
		s       string
		sources []string
		want    string
	}{
		{"SELECT a FROM t", []string{x}, "N; 1; 2; 3"},
		{"SELECT * FROM t", []string{x}, "N z 5; 1 x 5; 2 y N; 3 x 7"},
		{"SELECT b, a + 1 FROM t", []string{x}, "x 2; x 4; y 3; z N"},
		{"SELECT a FROM t WHERE a > 1", []string{x}, "2; 3"},
		{"SELECT a FROM t WHERE c = 5", []string{x}, "N; 1"},
		{"SELECT b FROM t WHERE NOT a = 1", []string{x}, "x; y"},
		{"SELECT b FROM t WHERE a = NULL OR c IS NULL", []string{x}, "y"},
		{"SELECT b FROM t WHERE NULL = NULL", []string{x}, ""},
		{"SELECT b FROM t", []string{x}, "x; x; y; z"},
		{"SELECT DISTINCT b FROM t", []string{x}, "x; y; z"},
		{"SELECT DISTINCT b FROM t ORDER BY b DESC", []string{x}, "z; y; x"},
		{"SELECT DISTINCT c FROM t LIMIT 2", []string{x}, "N; 5"},
		{"SELECT b FROM t ORDER BY a DESC", []string{x}, "x; y; x; z"},
		{"SELECT a, b FROM t ORDER BY b, a DESC", []string{x}, "3 x; 1 x; 2 y; N z"},
		{"SELECT a FROM t ORDER BY c DESC", []string{x}, "3; N; 1; 2"},
		{"SELECT a FROM t ORDER BY c", []string{x}, "2; N; 1; 3"},
		{"SELECT a FROM t ORDER BY a DESC LIMIT 2", []string{x}, "3; 2"},
		{"SELECT a FROM t LIMIT 0", []string{x}, ""},
		{"SELECT a FROM t LIMIT 9", []string{x}, "N; 1; 2; 3"},
		{"SELECT 7 FROM t", []string{"1 x 1; 1 x 1"}, "7; 7"},
		{"SELECT DISTINCT 7 FROM t", []string{"1 x 1; 1 x 1"}, "7"},
		{"SELECT a, e FROM t JOIN u ON a = d", []string{x, d}, "1 10; 3 30; 3 31"},
		{"SELECT a, e FROM t JOIN u ON a < d WHERE e > 30", []string{x, d}, "1 31; 2 31"},
		{"SELECT a FROM t JOIN u ON 1 = 1", []string{"1 x 1; 2 x 1", "1 1; 2 2"}, "1; 1; 2; 2"},
		{"SELECT x.a, y.a FROM t AS x JOIN t AS y ON x.b = y.b JOIN u ON y.a = d", []string{x, x, d}, "1 1; 1 3; 1 3; 3 1; 3 3; 3 3"},
		{"SELECT a FROM t JOIN u ON a = d", []string{x, ""}, ""},
		{"SELECT COUNT(*) FROM t", []string{x}, "4"},
		{"SELECT COUNT(a), COUNT(*), SUM(a), MIN(a), MAX(a), MIN(b), MAX(b) FROM t", []string{x}, "3 4 6 1 3 x z"},
		{"SELECT COUNT(*), COUNT(a), SUM(a), MIN(a), MAX(b) FROM t", []string{""}, "0 0 N N N"},
		{"SELECT COUNT(*) FROM t WHERE a > 99", []string{x}, "0"},
		{"SELECT 1 FROM t ORDER BY COUNT(*)", []string{""}, "1"},
		{"SELECT COUNT(*) FROM t GROUP BY a", []string{""}, ""},
		{"SELECT b, COUNT(*), SUM(a), SUM(c) FROM t GROUP BY b", []string{x}, "x 2 4 12; y 1 2 N; z 1 N 5"},
		{"SELECT c, COUNT(*) FROM t GROUP BY c", []string{x + "; 9 q N"}, "N 2; 5 2; 7 1"},
		{"SELECT b FROM t GROUP BY b ORDER BY COUNT(*) DESC, b DESC", []string{x}, "x; z; y"},
		{"SELECT a + 1, (a + 1) * 10 + COUNT(*) FROM t GROUP BY a + 1", []string{"1 x 1; 1 y 1; 2 z 1"}, "2 22; 3 31"},
		{"SELECT SUM(a + c), MAX(-a) FROM t", []string{x}, "16 -1"},
		{"SELECT DISTINCT COUNT(*) FROM t GROUP BY b", []string{x}, "1; 2"},
		{"SELECT COUNT(*) FROM t GROUP BY b LIMIT 1", []string{x}, "1"},
		{"SELECT b, SUM(e) FROM t JOIN u ON a = d GROUP BY b", []string{x, d}, "x 71"},
		{"SELECT a, b FROM t GROUP BY a, b", []string{"1 x 1; 1 x 2; 1 y 3"}, "1 x; 1 y"},
		{"SELECT COUNT(n), SUM(n), MIN(n), COUNT(*) FROM v", []string{"N; N"}, "0 N N 2"},
		{"SELECT NULL, MIN(b) FROM t", []string{"1 N 1; 2 b 1; 3 a 1"}, "N a"},
		{"SELECT SUM(a) FROM t", []string{"MAX x 1; MAX x 1; LEAST x 1; LEAST x 1"}, "-2"},
		{"SELECT SUM(a) FROM t", []string{"LEAST x 1; LEAST x 1; MAX x 1"}, "!"},
		{"SELECT COUNT(a) FROM t", []string{"MAX x 1; MAX x 1"}, "2"},
	} {
		got, e := run(t, c.s, c.sources...)
		if c.want == "!" {
			if e != api.ErrOver || len(got) > 0 {
				t.Errorf("%s: %s %d", c.s, shown(got), e)
			}
			continue
		}
		if shown(got) != c.want || e != api.OK {
			t.Errorf("%s: %s, not %s %d", c.s, shown(got), c.want, e)
		}
	}
}

// What is looked at may run over, what isn't may not.
func TestOver(t *testing.T) {
	one, max, none := "1 x 1", "MAX x 1", ""
	for _, c := range []struct {
		s, rows string
		e       api.Errno
	}{
		{"SELECT a + 1 FROM t", one, api.OK}, {"SELECT a + 1 FROM t", max, api.ErrOver}, {"SELECT a + 1 FROM t WHERE a = 1", max, api.OK}, {"SELECT a + 1 FROM t LIMIT 0", max, api.ErrOver}, {"SELECT a FROM t ORDER BY a + 1", max, api.ErrOver}, {"SELECT a FROM t ORDER BY a + 1 LIMIT 0", max, api.ErrOver}, {"SELECT a FROM t ORDER BY a, a + 1", max, api.ErrOver}, {"SELECT DISTINCT a + 1 FROM t", max, api.ErrOver},
		{"SELECT a FROM t WHERE a + 1 > 0", max, api.ErrOver}, {"SELECT a FROM t WHERE a + 1 > 0", none, api.OK}, {"SELECT 9223372036854775807 + 1 FROM t", none, api.OK}, {"SELECT 9223372036854775807 + 1 FROM t", one, api.ErrOver},
		{"SELECT a FROM t WHERE a = 0 AND a + 1 > 0", max, api.OK}, {"SELECT a FROM t WHERE a + 1 > 0 AND a = 0", max, api.ErrOver}, {"SELECT a FROM t WHERE a > 0 AND a + 1 > 0", max, api.ErrOver}, {"SELECT a FROM t WHERE a = NULL AND a + 1 > 0", max, api.ErrOver},
		{"SELECT a FROM t WHERE a > 0 OR a + 1 > 0", max, api.OK}, {"SELECT a FROM t WHERE a = 0 OR a + 1 > 0", max, api.ErrOver}, {"SELECT a FROM t WHERE a = NULL OR a + 1 > 0", max, api.ErrOver}, {"SELECT a FROM t WHERE a * 2 IS NULL", max, api.ErrOver}, {"SELECT a FROM t WHERE NOT a * 2 = 1", max, api.ErrOver},
		{"SELECT -a FROM t", "LEAST x 1", api.ErrOver}, {"SELECT -a FROM t", max, api.OK}, {"SELECT a - 1 FROM t", "LEAST x 1", api.ErrOver}, {"SELECT -(-a) FROM t", "N x 1", api.OK},
		{"SELECT SUM(a) FROM t", "MAX x 1; 1 x 1", api.ErrOver}, {"SELECT SUM(a) FROM t", "MAX x 1; 1 x 1; -1 x 1", api.OK}, {"SELECT COUNT(a + 1) FROM t", max, api.ErrOver}, {"SELECT MIN(a + 1) FROM t", max, api.ErrOver}, {"SELECT SUM(a) + 1 FROM t", max, api.ErrOver}, {"SELECT COUNT(*) FROM t GROUP BY a + 1", max, api.ErrOver}, {"SELECT COUNT(*) FROM t ORDER BY SUM(a)", "MAX x 1; 1 x 1", api.ErrOver}, {"SELECT SUM(a) FROM t GROUP BY c", "MAX x 1; 1 x 2", api.OK}, {"SELECT COUNT(*) + 9223372036854775807 FROM t", none, api.OK}, {"SELECT COUNT(*) + 9223372036854775807 FROM t", one, api.ErrOver},
	} {
		got, e := run(t, c.s, c.rows)
		if e != c.e || e != api.OK && len(got) > 0 {
			t.Errorf("%s: %s %d", c.s, shown(got), e)
		}
	}
	// A condition behind one that isn't True isn't looked at.
	for s, want := range map[string]api.Errno{"SELECT a FROM t JOIN u ON a = d WHERE a + 1 > 0": api.OK, "SELECT a FROM t JOIN u ON a + 1 > 0 WHERE a = d": api.ErrOver, "SELECT a FROM t JOIN u ON NULL = 1 WHERE a + 1 > 0": api.OK, "SELECT a FROM t JOIN u ON a > d WHERE a + 1 > 0": api.ErrOver} {
		if _, e := run(t, s, max, "1 1"); e != want {
			t.Errorf("%s: %d", s, e)
		}
	}
	if _, e := run(t, "SELECT a FROM t JOIN u ON a + 1 > 0", max, ""); e != api.OK {
		t.Error("no combinations", e)
	}
}

func TestRowsWrong(t *testing.T) {
	q := resolved(t, "SELECT a FROM t JOIN u ON a = d")
	for _, all := range [][][][]api.Value{nil, {list("1 x 1")}, {nil, nil, nil}} {
		if got, e := Rows(q, all); len(got) > 0 || e != api.ErrArg {
			t.Error(got, e)
		}
	}
	if got, e := Rows(q, [][][]api.Value{nil, nil}); len(got) != 0 || e != api.OK {
		t.Error(got, e)
	}
	// Rows that don't fit, and what is no query: it ends.
	Rows(q, [][][]api.Value{{nil}, {{{Kind: 9}}}})
	Rows(resolved(t, "SELECT SUM(a), MIN(b) FROM t GROUP BY c"), [][][]api.Value{{{text("a"), num(1), {Kind: 7}}, {text("a")}}})
	bad := scope.Cell{Kind: 6, Op: "X", Parts: []scope.Cell{{Kind: 1}}}
	for _, c := range []scope.Cell{{}, {Kind: 4, Op: "AND"}, {Kind: 3, Op: "NOT"}, {Kind: 5}, {Kind: 6, Op: "SUM"}, bad, {Kind: 2, Source: -1}, {Kind: 4, Op: "+", Parts: []scope.Cell{{}, {}, {}}}} {
		Rows(scope.Query{Sources: []int{0}, Conditions: []scope.Cell{c}}, [][][]api.Value{list("1")})
		Rows(scope.Query{Sources: []int{0}, Items: []scope.Cell{c}, Grouped: true}, [][][]api.Value{list("1")})
		Rows(scope.Query{Sources: []int{0}, Group: []scope.Cell{c}, Grouped: true, Order: []scope.Order{{C: c}}}, [][][]api.Value{list("1")})
	}
	Rows(scope.Query{}, nil)
}

func cell(t *testing.T, s string) scope.Cell {
	t.Helper()
	e, errno := expr.Parse(s)
	if errno != api.OK {
		t.Fatal(s, errno)
	}
	c, _, errno := scope.Value(tables(), []int{0, 1}, e)
	if errno != api.OK {
		t.Fatal(s, errno)
	}
	return c
}

func TestWorth(t *testing.T) {
	rows := [][]api.Value{list("4 x N")[0], list("10 -3")[0]}
	for s, want := range map[string]string{
		"1": "1", "'q'": "q", "NULL": "N", "a": "4", "b": "x", "c": "N", "e": "-3", "a + d": "14", "a - d": "-6", "a * e": "-12", "-a": "-4", "-c": "N", "a + c": "N", "NULL * NULL": "N", "-(-e)": "-3", "1 - 2 - 3": "-4",
	} {
		v, truth, e := Worth(cell(t, s), rows)
		if v != val(want) || truth != 0 || e != api.OK {
			t.Error(s, v, truth, e)
		}
	}
	yes, no, open := "a = 4", "a = 5", "c = 1"
	for s, want := range map[string]int{
		yes: api.True, no: api.False, open: api.Unknown, "a < d": api.True, "a >= d": api.False, "b <> 'x'": api.False, "b <= 'x'": api.True, "b > 'w'": api.True, "a IS NULL": api.False, "c IS NULL": api.True, "a IS NOT NULL": api.True, "c IS NOT NULL": api.False, "c + 1 IS NULL": api.True, "NULL = NULL": api.Unknown,
		"NOT " + yes: api.False, "NOT " + no: api.True, "NOT " + open: api.Unknown,
		yes + " AND " + yes: api.True, yes + " AND " + no: api.False, yes + " AND " + open: api.Unknown, open + " AND " + no: api.False, open + " AND " + open: api.Unknown, open + " AND " + yes: api.Unknown, no + " AND " + open: api.False,
		no + " OR " + no: api.False, no + " OR " + yes: api.True, no + " OR " + open: api.Unknown, open + " OR " + yes: api.True, open + " OR " + no: api.Unknown, yes + " OR " + open: api.True,
	} {
		v, truth, e := Worth(cell(t, s), rows)
		if v != (api.Value{}) || truth != want || e != api.OK {
			t.Error(s, v, truth, e)
		}
	}
}

func TestWorthWrong(t *testing.T) {
	good := list("4 x N")[0]
	for _, c := range []struct {
		s    string
		rows [][]api.Value
		e    api.Errno
	}{
		{"a", nil, api.ErrArg}, {"d", [][]api.Value{good}, api.ErrArg}, {"c", [][]api.Value{good[:2]}, api.ErrArg}, {"a", [][]api.Value{{{Kind: 3}}}, api.ErrArg}, {"a IS NULL", [][]api.Value{{{N: 1}}}, api.ErrArg}, {"a + 1", [][]api.Value{{text("x")}}, api.ErrArg}, {"-a", [][]api.Value{{text("x")}}, api.ErrArg}, {"a = 1", [][]api.Value{{text("x")}}, api.ErrArg}, {"a < c", [][]api.Value{{num(1), {}, text("x")}}, api.ErrArg}, {"NOT a = 1", [][]api.Value{{text("x")}}, api.ErrArg},
		{"a = 1 AND d = 1", [][]api.Value{good}, api.OK}, {"a = 4 AND d = 1", [][]api.Value{good}, api.ErrArg}, {"a = 4 OR d = 1", [][]api.Value{good}, api.OK}, {"a = 5 OR d = 1", [][]api.Value{good}, api.ErrArg}, {"c = 5 OR d = 1", [][]api.Value{good}, api.ErrArg}, {"c = 5 AND d = 1", [][]api.Value{good}, api.ErrArg},
		{"a * 9223372036854775807", [][]api.Value{good}, api.ErrOver}, {"a * 9223372036854775807 = d", [][]api.Value{good}, api.ErrOver}, {"d = a * 9223372036854775807", [][]api.Value{good}, api.ErrArg}, {"NOT a * 9223372036854775807 = 1", [][]api.Value{good}, api.ErrOver},
	} {
		v, truth, e := Worth(cell(t, c.s), c.rows)
		if e != c.e || e != api.OK && (v != (api.Value{}) || truth != 0) {
			t.Error(c.s, v, truth, e)
		}
	}
	one := scope.Cell{Kind: 1, V: num(1)}
	yes := scope.Cell{Kind: 5, Op: "IS NOT NULL", Parts: []scope.Cell{one}}
	for i, c := range []scope.Cell{
		{}, {Kind: 7}, {Kind: 1, V: api.Value{Kind: 9}}, {Kind: 2, Source: -1}, {Kind: 2, Column: -1}, {Kind: 2, Column: math.MaxInt}, {Kind: 3, Op: "-"}, {Kind: 3, Op: "NOT"}, {Kind: 3, Op: "?", Parts: []scope.Cell{one}}, {Kind: 3, Op: "NOT", Parts: []scope.Cell{one}}, {Kind: 3, Op: "-", Parts: []scope.Cell{yes}}, {Kind: 4, Op: "+", Parts: []scope.Cell{one}}, {Kind: 4, Op: "AND", Parts: []scope.Cell{yes}}, {Kind: 4, Op: "AND", Parts: []scope.Cell{yes, one}}, {Kind: 4, Op: "=", Parts: []scope.Cell{one, yes}}, {Kind: 4, Op: "?", Parts: []scope.Cell{one, one}}, {Kind: 5, Op: "IS", Parts: []scope.Cell{one}}, {Kind: 5, Op: "IS NULL"}, {Kind: 5, Op: "IS NULL", Parts: []scope.Cell{yes}}, {Kind: 6, Op: "COUNT"}, {Kind: 6, Op: "SUM", Parts: []scope.Cell{one}},
	} {
		if v, truth, e := Worth(c, [][]api.Value{good}); e != api.ErrArg || v != (api.Value{}) || truth != 0 {
			t.Error(i, v, truth, e)
		}
	}
}

func TestNothingIsShared(t *testing.T) {
	rows := list("1 x 1; 2 y 2")
	got, _ := Rows(resolved(t, "SELECT * FROM t"), [][][]api.Value{rows})
	got[0][0], got[1] = num(9), nil
	if !slices.EqualFunc(rows, list("1 x 1; 2 y 2"), slices.Equal[[]api.Value]) {
		t.Error(rows)
	}
}
