package parse

import (
	"math"
	"strings"
	"testing"

	"wainscot/api"
	"wainscot/expr"
)

// ex is the expression that a text is.
func ex(t *testing.T, s string) expr.Expr {
	t.Helper()
	e, errno := expr.Parse(s)
	if errno != api.OK {
		t.Fatal(s, errno)
	}
	return e
}

func exs(t *testing.T, list ...string) []expr.Expr {
	t.Helper()
	var out []expr.Expr
	for _, s := range list {
		out = append(out, ex(t, s))
	}
	return out
}

func queryOf(q Query) Statement { return Statement{Kind: 10, Query: q} }

func from(names ...string) []Source {
	var l []Source
	for _, n := range names {
		l = append(l, Source{Table: n, Name: n})
	}
	return l
}

func read(t *testing.T) map[string]Statement {
	a := []Item{{E: ex(t, "a")}}
	return map[string]Statement{
		"CREATE TABLE t (a INT)":                                            {Kind: 1, Name: "t", Columns: []api.Column{{Name: "a", Kind: api.Int}}},
		"CREATE TABLE t (a INT NOT NULL UNIQUE, b TEXT);":                   {Kind: 1, Name: "t", Columns: []api.Column{{Name: "a", Kind: api.Int, NotNull: true, Unique: true}, {Name: "b", Kind: api.Text}}},
		"CREATE TABLE t (a TEXT UNIQUE, b INT NOT NULL, a INT)":             {Kind: 1, Name: "t", Columns: []api.Column{{Name: "a", Kind: api.Text, Unique: true}, {Name: "b", Kind: api.Int, NotNull: true}, {Name: "a", Kind: api.Int}}},
		"CREATE INDEX i ON t (a)":                                           {Kind: 2, Name: "i", On: "t", Keys: []string{"a"}},
		"CREATE UNIQUE INDEX i ON t (b, a, b)":                              {Kind: 2, Name: "i", On: "t", Unique: true, Keys: []string{"b", "a", "b"}},
		"CREATE MATERIALIZED VIEW v AS SELECT a FROM t":                     {Kind: 3, Name: "v", Query: Query{Items: a, Sources: from("t"), Limit: -1}},
		"CREATE MATERIALIZED VIEW v AS SELECT DISTINCT * FROM t LIMIT 0 ; ": {Kind: 3, Name: "v", Query: Query{Distinct: true, Star: true, Sources: from("t")}},
		"DROP TABLE t":             {Kind: 4, Name: "t"},
		"DROP INDEX i ;":           {Kind: 5, Name: "i"},
		"DROP VIEW v":              {Kind: 6, Name: "v"},
		"INSERT INTO t VALUES (1)": {Kind: 7, Name: "t", Rows: [][]expr.Expr{exs(t, "1")}},
		"INSERT INTO t VALUES (1, 'a'), (2 + b, NULL), (3)": {Kind: 7, Name: "t", Rows: [][]expr.Expr{exs(t, "1", "'a'"), exs(t, "2 + b", "NULL"), exs(t, "3")}},
		"UPDATE t SET a = 1":                              {Kind: 8, Name: "t", Sets: []Assign{{Column: "a", E: ex(t, "1")}}},
		"UPDATE t SET a = b = c, a = - 1 WHERE a IS NULL": {Kind: 8, Name: "t", Sets: []Assign{{Column: "a", E: ex(t, "b = c")}, {Column: "a", E: ex(t, "-1")}}, Where: exs(t, "a IS NULL")},
		"DELETE FROM t":                                   {Kind: 9, Name: "t"},
		"DELETE FROM t WHERE NOT a OR b":                  {Kind: 9, Name: "t", Where: exs(t, "NOT a OR b")},
		"BEGIN":                                           {Kind: 11},
		"COMMIT;":                                         {Kind: 12},
		"ROLLBACK --x":                                    {Kind: 13},
		"SELECT a FROM t":                                 queryOf(Query{Items: a, Sources: from("t"), Limit: -1}),
		"SELECT * FROM t":                                 queryOf(Query{Star: true, Sources: from("t"), Limit: -1}),
		"SELECT a FROM t AS u":                            queryOf(Query{Items: a, Sources: []Source{{Table: "t", Name: "u"}}, Limit: -1}),
		"SELECT a FROM t AS t LIMIT 9223372036854775807":        queryOf(Query{Items: a, Sources: from("t"), Limit: math.MaxInt64}),
		"SELECT DISTINCT t.a AS b, COUNT(*), a + 1 AS c FROM t": queryOf(Query{Distinct: true, Items: []Item{{E: ex(t, "t.a"), Name: "b"}, {E: ex(t, "COUNT(*)")}, {E: ex(t, "a + 1"), Name: "c"}}, Sources: from("t"), Limit: -1}),
		"SELECT a FROM t JOIN u ON t.a = u.a JOIN t AS w ON b":  queryOf(Query{Items: a, Sources: []Source{{Table: "t", Name: "t"}, {Table: "u", Name: "u", On: ex(t, "t.a = u.a")}, {Table: "t", Name: "w", On: ex(t, "b")}}, Limit: -1}),
		"SELECT a, COUNT(*) FROM t WHERE b > 0 GROUP BY a ORDER BY a DESC LIMIT 3": queryOf(Query{
			Items: []Item{{E: ex(t, "a")}, {E: ex(t, "COUNT(*)")}}, Sources: from("t"), Where: exs(t, "b > 0"), Group: exs(t, "a"), Order: []Order{{E: ex(t, "a"), Desc: true}}, Limit: 3,
		}),
		"SELECT a FROM t GROUP BY a, b + 1 ORDER BY a ASC, b, a = b DESC": queryOf(Query{
			Items: a, Sources: from("t"), Group: exs(t, "a", "b + 1"), Order: []Order{{E: ex(t, "a")}, {E: ex(t, "b")}, {E: ex(t, "a = b"), Desc: true}}, Limit: -1,
		}),
	}
}

func TestRead(t *testing.T) {
	for text, want := range read(t) {
		got, e := Read(text)
		if !Same(got, want) || e != api.OK {
			t.Errorf("%s: %v %d", text, got, e)
		}
		if !Formed(got) {
			t.Errorf("%s: isn't formed", text)
		}
	}
}

// Each text's words, cut off or with one left out, are no statement, but for those that stand here.
func TestCut(t *testing.T) {
	whole := "SELECT DISTINCT a AS b FROM t AS u JOIN w ON c WHERE d GROUP BY e ORDER BY f DESC LIMIT 3 ;"
	ends := map[string]bool{"t": true, "u": true, "c": true, "d": true, "e": true, "f": true, "DESC": true, "3": true, ";": true}
	words := strings.Fields(whole)
	for i := range words {
		text := strings.Join(words[:i+1], " ")
		want := api.ErrSyntax
		if ends[words[i]] {
			want = api.OK
		}
		if _, e := Read(text); e != want {
			t.Errorf("%s: %d", text, e)
		}
	}
}

func TestSyntax(t *testing.T) {
	for _, text := range []string{
		"", ";", "x", "select a from t", "BEGIN;;", "BEGIN COMMIT", "COMMIT t", "'BEGIN'", "BEGIN , ",
		"CREATE", "CREATE VIEW v AS SELECT a FROM t", "CREATE TABLE (a INT)", "CREATE TABLE t", "CREATE TABLE t ()", "CREATE TABLE t (a)", "CREATE TABLE t (a INT,)", "CREATE TABLE t (a INT", "CREATE TABLE t a INT", "CREATE TABLE SET (a INT)", "CREATE TABLE t (SET INT)", "CREATE TABLE t (a FLOAT)", "CREATE TABLE t (a INT NULL)", "CREATE TABLE t (a INT UNIQUE NOT NULL)", "CREATE TABLE t (a INT NOT)", "CREATE TABLE t (a INT NOT NULL NOT NULL)", "CREATE UNIQUE TABLE t (a INT)", "CREATE TABLE t (a 'INT')", "CREATE TABLE 't' (a INT)", "CREATE TABLE t.u (a INT)",
		"CREATE INDEX i", "CREATE INDEX ON t (a)", "CREATE INDEX i t (a)", "CREATE INDEX i ON t", "CREATE INDEX i ON t ()", "CREATE INDEX i ON t (a b)", "CREATE INDEX i ON t (t.a)", "CREATE INDEX i ON t (1)", "CREATE INDEX UNIQUE i ON t (a)",
		"CREATE MATERIALIZED v AS SELECT a FROM t", "CREATE MATERIALIZED VIEW AS SELECT a FROM t", "CREATE MATERIALIZED VIEW v SELECT a FROM t", "CREATE MATERIALIZED VIEW v AS BEGIN", "CREATE MATERIALIZED VIEW v AS (SELECT a FROM t)",
		"DROP", "DROP t", "DROP TABLE", "DROP TABLE t, u", "DROP TABLE 1", "DROP MATERIALIZED VIEW v", "DROP VIEW",
		"INSERT t VALUES (1)", "INSERT INTO VALUES (1)", "INSERT INTO t (1)", "INSERT INTO t VALUES", "INSERT INTO t VALUES ()", "INSERT INTO t VALUES 1", "INSERT INTO t VALUES (1,)", "INSERT INTO t VALUES (1),", "INSERT INTO t VALUES (1) (2)", "INSERT INTO t VALUES (1 2)", "INSERT INTO t (a) VALUES (1)",
		"UPDATE t", "UPDATE SET a = 1", "UPDATE t SET", "UPDATE t SET a", "UPDATE t SET a =", "UPDATE t SET a <> 1", "UPDATE t SET t.a = 1", "UPDATE t SET a = 1,", "UPDATE t SET a = 1 WHERE", "UPDATE t SET a = 1 WHERE a WHERE b", "UPDATE t SET 1 = 1",
		"DELETE t", "DELETE FROM", "DELETE FROM t WHERE", "DELETE FROM t a", "DELETE FROM t, u", "DELETE FROM t WHERE a, b",
		"SELECT FROM t", "SELECT a", "SELECT a t", "SELECT * a FROM t", "SELECT *, a FROM t", "SELECT a, * FROM t", "SELECT DISTINCT FROM t", "SELECT a b FROM t", "SELECT a AS FROM t", "SELECT a AS 'b' FROM t", "SELECT a, FROM t", "SELECT a FROM", "SELECT a FROM t u", "SELECT a FROM t, u", "SELECT a FROM t AS", "SELECT a FROM t ON a", "SELECT a FROM t JOIN u", "SELECT a FROM t JOIN u ON", "SELECT a FROM t JOIN ON a", "SELECT a FROM t WHERE", "SELECT a FROM t GROUP a", "SELECT a FROM t GROUP BY", "SELECT a FROM t GROUP BY a,", "SELECT a FROM t ORDER a", "SELECT a FROM t ORDER BY", "SELECT a FROM t ORDER BY a ASC DESC", "SELECT a FROM t ORDER BY a,", "SELECT a FROM t LIMIT", "SELECT a FROM t LIMIT -1", "SELECT a FROM t LIMIT a", "SELECT a FROM t LIMIT '1'", "SELECT a FROM t LIMIT 1 LIMIT 2", "SELECT a FROM t LIMIT 1 WHERE a", "SELECT a FROM t ORDER BY a GROUP BY a", "SELECT a FROM t GROUP BY a WHERE b", "SELECT a + FROM t", "SELECT (SELECT a FROM t) FROM t", "SELECT ALL a FROM t", "SELECT a FROM (t)", "SELECT a < b < c FROM t", "SELECT a FROM t HAVING a", "SELECT a FROM t WHERE a ASC",
		"SELECT 01 FROM t", "SELECT é FROM t",
	} {
		if got, e := Read(text); !Same(got, Statement{}) || e != api.ErrSyntax {
			t.Errorf("%s: %v %d", text, got, e)
		}
	}
}

func TestDeep(t *testing.T) {
	deep := strings.Repeat("NOT ", 8) + "a"
	for text, want := range map[string]api.Errno{
		"SELECT " + deep + " FROM t": api.ErrDeep, "SELECT " + deep[4:] + " FROM t": api.OK,
		"SELECT " + deep + " FROM FROM": api.ErrDeep, "SELECT a a, " + deep + " FROM t": api.ErrSyntax, "SELECT " + deep + " a FROM t": api.ErrDeep,
		"INSERT INTO t VALUES (" + deep + ")": api.ErrDeep, "INSERT INTO t VALUES (1), (" + deep + ", 2": api.ErrDeep, "INSERT INTO t VALUES (1, " + deep + " +": api.ErrSyntax,
		"UPDATE t SET a = " + deep: api.ErrDeep, "UPDATE t SET a = 1 WHERE " + deep + ";;": api.ErrDeep, "DELETE FROM t WHERE " + deep: api.ErrDeep,
		"SELECT a FROM t JOIN u ON " + deep: api.ErrDeep, "SELECT a FROM t WHERE " + deep: api.ErrDeep, "SELECT a FROM t GROUP BY a, " + deep: api.ErrDeep, "SELECT a FROM t ORDER BY " + deep + " LIMIT x": api.ErrDeep,
		"CREATE MATERIALIZED VIEW v AS SELECT " + deep + " FROM t": api.ErrDeep,
		"INSERT INTO t VALUES (1,1,1,1,1,1,1,1,1," + deep + ")":    api.ErrDeep,
	} {
		if got, e := Read(text); e != want || e != api.OK && !Same(got, Statement{}) {
			t.Errorf("%s: %v %d", text, got, e)
		}
	}
}

// times is a list of n alike.
func times(n int, s string) string { return strings.TrimSuffix(strings.Repeat(s+", ", n), ", ") }

func TestLong(t *testing.T) {
	joined := func(n int) string { return "SELECT a FROM t" + strings.Repeat(" JOIN t ON a", n-1) }
	for _, c := range []struct {
		most int
		text func(n int) string
	}{
		{api.MaxColumns, func(n int) string { return "CREATE TABLE t (" + times(n, "a INT") + ")" }},
		{api.MaxColumns, func(n int) string { return "CREATE INDEX i ON t (" + times(n, "a") + ")" }},
		{api.MaxItems, func(n int) string { return "SELECT " + times(n, "a AS b") + " FROM t" }},
		{api.MaxItems, func(n int) string { return "SELECT a FROM t GROUP BY " + times(n, "a") }},
		{api.MaxItems, func(n int) string { return "SELECT a FROM t ORDER BY " + times(n, "a DESC") }},
		{api.MaxItems, func(n int) string { return "CREATE MATERIALIZED VIEW v AS SELECT " + times(n, "a") + " FROM t" }},
		{api.MaxSources, joined},
		{api.MaxTuples, func(n int) string { return "INSERT INTO t VALUES " + times(n, "(1)") }},
		{api.MaxColumns, func(n int) string { return "INSERT INTO t VALUES (1), (" + times(n, "1") + "), (1)" }},
		{api.MaxColumns, func(n int) string { return "UPDATE t SET " + times(n, "a = 1") }},
	} {
		text := c.text(c.most)
		if s, e := Read(text); e != api.OK || !Formed(s) {
			t.Errorf("%s: %d", text, e)
		}
		text = c.text(c.most + 1)
		if s, e := Read(text); e != api.ErrLong || !Same(s, Statement{}) {
			t.Errorf("%s: %v %d", text, s, e)
		}
		if _, e := Read(text + " 7"); e != api.ErrSyntax {
			t.Errorf("%s 7: %d", text, e)
		}
	}
	for _, text := range []string{strings.Repeat(" ", 4001), strings.Repeat("(", 601), "INSERT INTO t VALUES (" + times(300, "1") + ")"} {
		if _, e := Read(text); e != api.ErrLong {
			t.Errorf("%.30s: %d", text, e)
		}
	}
}

// changed are what a good statement becomes by changes that no text says.
func changed(t *testing.T) []Statement {
	var l []Statement
	add := func(text string, changes ...func(s *Statement)) {
		for _, change := range changes {
			s, e := Read(text)
			if e != api.OK {
				t.Fatal(text)
			}
			change(&s)
			l = append(l, s)
		}
	}
	bad := expr.Expr{Kind: 7}
	for text := range read(t) {
		s, _ := Read(text)
		add(text, func(s *Statement) { s.Kind = 0 }, func(s *Statement) { s.Kind = 14 }, func(s *Statement) { s.Kind = -1 })
		if s.Kind < 10 {
			add(text, func(s *Statement) { s.Name = "" }, func(s *Statement) { s.Name = "1" }, func(s *Statement) { s.Name = "SET" })
		} else {
			add(text, func(s *Statement) { s.Name = "t" })
		}
		if s.Kind != 1 {
			add(text, func(s *Statement) { s.Columns = []api.Column{{Name: "a", Kind: 1}} })
		}
		if s.Kind != 2 {
			add(text, func(s *Statement) { s.On = "t" }, func(s *Statement) { s.Unique = true }, func(s *Statement) { s.Keys = []string{"a"} })
		}
		if s.Kind != 3 && s.Kind != 10 {
			add(text, func(s *Statement) { s.Query.Limit = -1 }, func(s *Statement) { s.Query.Distinct = true }, func(s *Statement) { s.Query.Star = true }, func(s *Statement) { s.Query.Items = make([]Item, 1) }, func(s *Statement) { s.Query.Sources = from("t") },
				func(s *Statement) { s.Query.Where = exs(t, "a") }, func(s *Statement) { s.Query.Group = exs(t, "a") }, func(s *Statement) { s.Query.Order = make([]Order, 1) })
		}
		if s.Kind != 7 {
			add(text, func(s *Statement) { s.Rows = [][]expr.Expr{exs(t, "1")} }, func(s *Statement) { s.Rows = [][]expr.Expr{nil} })
		}
		if s.Kind != 8 {
			add(text, func(s *Statement) { s.Sets = []Assign{{Column: "a", E: ex(t, "1")}} })
		}
		if s.Kind != 8 && s.Kind != 9 {
			add(text, func(s *Statement) { s.Where = exs(t, "a") })
		}
	}
	add("CREATE TABLE t (a INT)", func(s *Statement) { s.Columns = nil }, func(s *Statement) { s.Columns[0].Kind = 0 }, func(s *Statement) { s.Columns[0].Kind = 3 }, func(s *Statement) { s.Columns[0].Name = "é" }, func(s *Statement) { s.Columns = make([]api.Column, 9) },
		func(s *Statement) { s.Columns = append(s.Columns, api.Column{}) })
	add("CREATE INDEX i ON t (a)", func(s *Statement) { s.Keys = nil }, func(s *Statement) { s.Keys[0] = "" }, func(s *Statement) { s.On = "" }, func(s *Statement) { s.On = "ON" }, func(s *Statement) { s.Keys = strings.Fields("a a a a a a a a a") })
	add("INSERT INTO t VALUES (1)", func(s *Statement) { s.Rows = nil }, func(s *Statement) { s.Rows[0] = nil }, func(s *Statement) { s.Rows[0][0] = bad }, func(s *Statement) { s.Rows[0] = exs(t, strings.Fields("1 1 1 1 1 1 1 1 1")...) },
		func(s *Statement) { s.Rows = make([][]expr.Expr, 11) }, func(s *Statement) { s.Rows = append(s.Rows, nil) }, func(s *Statement) {
			for len(s.Rows) < 11 {
				s.Rows = append(s.Rows, exs(t, "1"))
			}
		})
	add("UPDATE t SET a = 1 WHERE b", func(s *Statement) { s.Sets = nil }, func(s *Statement) { s.Sets[0].Column = "" }, func(s *Statement) { s.Sets[0].E = bad }, func(s *Statement) { s.Where[0] = bad }, func(s *Statement) { s.Where = exs(t, "a", "b") }, func(s *Statement) {
		for len(s.Sets) < 9 {
			s.Sets = append(s.Sets, s.Sets[0])
		}
	})
	add("DELETE FROM t", func(s *Statement) { s.Where = []expr.Expr{{}} }, func(s *Statement) { s.Where = exs(t, "a", "b") })
	add("SELECT a AS b FROM t JOIN u ON c WHERE d GROUP BY e ORDER BY f LIMIT 1", func(s *Statement) { s.Query.Star = true }, func(s *Statement) { s.Query.Items = nil }, func(s *Statement) { s.Query.Items[0].Name = "1" }, func(s *Statement) { s.Query.Items[0].E = bad },
		func(s *Statement) { s.Query.Sources = nil }, func(s *Statement) { s.Query.Sources[0].On = ex(t, "a") }, func(s *Statement) { s.Query.Sources[1].On = expr.Expr{} }, func(s *Statement) { s.Query.Sources[1].Table = "" }, func(s *Statement) { s.Query.Sources[0].Name = "" }, func(s *Statement) { s.Query.Sources[0].Name = "AS" },
		func(s *Statement) { s.Query.Where = exs(t, "a", "b") }, func(s *Statement) { s.Query.Where[0] = bad }, func(s *Statement) { s.Query.Group[0] = bad }, func(s *Statement) { s.Query.Order[0].E = bad }, func(s *Statement) { s.Query.Limit = -2 }, func(s *Statement) { s.Query.Limit = math.MinInt64 },
		func(s *Statement) { s.Query.Items = make([]Item, 9) }, func(s *Statement) { s.Query.Group = make([]expr.Expr, 9) }, func(s *Statement) { s.Query.Order = make([]Order, 9) },
		func(s *Statement) {
			for len(s.Query.Sources) < 4 {
				s.Query.Sources = append(s.Query.Sources, s.Query.Sources[1])
			}
		}, func(s *Statement) { s.Query.Group = exs(t, strings.Fields("a a a a a a a a a")...) })
	return l
}

func TestUnformed(t *testing.T) {
	for i, s := range append(changed(t), Statement{}) {
		if Formed(s) {
			t.Error(i, s)
		}
	}
}

func TestFormedBeyondTexts(t *testing.T) {
	// Such a statement's text would have too many words, which Formed doesn't ask.
	s, _ := Read("INSERT INTO t VALUES (1)")
	s.Rows = nil
	for range 10 {
		s.Rows = append(s.Rows, exs(t, strings.Fields(strings.Repeat("(a+a)*(a+a)*(a+a)*(a+a)*(a+a)*(a+a)*(a+a) ", 8))...))
	}
	if !Formed(s) {
		t.Error("isn't formed")
	}
}

func TestSame(t *testing.T) {
	var l []Statement
	for text := range read(t) {
		s, _ := Read(text)
		l = append(l, s)
	}
	for i, a := range l {
		for k, b := range l {
			if Same(a, b) != (i == k) {
				t.Error(a, b)
			}
		}
	}
	// Whatever of one is changed, it is the same no more.
	base, _ := Read("SELECT a AS b FROM t JOIN u ON c WHERE d GROUP BY e ORDER BY f LIMIT 1")
	for i, change := range []func(s *Statement){
		func(s *Statement) { s.Kind = 3 }, func(s *Statement) { s.Name = "x" }, func(s *Statement) { s.On = "x" }, func(s *Statement) { s.Unique = true }, func(s *Statement) { s.Columns = make([]api.Column, 1) }, func(s *Statement) { s.Keys = make([]string, 1) }, func(s *Statement) { s.Rows = make([][]expr.Expr, 1) }, func(s *Statement) { s.Sets = make([]Assign, 1) }, func(s *Statement) { s.Where = exs(t, "a") },
		func(s *Statement) { s.Query.Distinct = true }, func(s *Statement) { s.Query.Star = true }, func(s *Statement) { s.Query.Limit = 2 }, func(s *Statement) { s.Query.Items[0].Name = "" }, func(s *Statement) { s.Query.Items[0].E.Column = "z" }, func(s *Statement) { s.Query.Sources[1].Table = "z" }, func(s *Statement) { s.Query.Sources[1].Name = "z" }, func(s *Statement) { s.Query.Sources[1].On.Column = "z" }, func(s *Statement) { s.Query.Sources = s.Query.Sources[:1] }, func(s *Statement) { s.Query.Where[0].Column = "z" }, func(s *Statement) { s.Query.Group[0].Column = "z" }, func(s *Statement) { s.Query.Order[0].E.Column = "z" }, func(s *Statement) { s.Query.Order[0].Desc = true },
	} {
		s, _ := Read("SELECT a AS b FROM t JOIN u ON c WHERE d GROUP BY e ORDER BY f LIMIT 1")
		change(&s)
		if Same(s, base) || Same(base, s) {
			t.Error(i)
		}
	}
	one, two := Statement{Columns: []api.Column{}, Keys: []string{}, Where: []expr.Expr{}}, Statement{}
	if !Same(one, two) {
		t.Error("no elements: nil and empty differ")
	}
	one, two = Statement{Rows: [][]expr.Expr{exs(t, "1")}, Sets: []Assign{{Column: "a"}}}, Statement{Rows: [][]expr.Expr{exs(t, "1")}, Sets: []Assign{{Column: "b"}}}
	if Same(one, two) || Same(Statement{Rows: [][]expr.Expr{exs(t, "1")}}, Statement{Rows: [][]expr.Expr{exs(t, "2")}}) {
		t.Error("other rows or sets")
	}
}
