package show

import (
	"math/rand"
	"strings"
	"testing"

	"wainscot/api"
	"wainscot/expr"
	"wainscot/parse"
)

// texts are those that are shown as they are.
func texts() []string {
	return []string{
		"INSERT INTO t VALUES (1, 'a'), (2, NULL)",
		"INSERT INTO t VALUES (-1)",
		"CREATE TABLE t (a INT NOT NULL UNIQUE, b TEXT)",
		"CREATE TABLE t (a TEXT UNIQUE, b INT NOT NULL, c INT)",
		"CREATE INDEX i ON t (a)",
		"CREATE UNIQUE INDEX i ON t (a, b)",
		"CREATE MATERIALIZED VIEW v AS SELECT a, COUNT(*) AS n FROM t GROUP BY a",
		"DROP TABLE t", "DROP INDEX i", "DROP VIEW v",
		"UPDATE t SET a = 1", "UPDATE t SET a = b = c, b = 'it''s' WHERE NOT a IS NULL",
		"DELETE FROM t", "DELETE FROM t WHERE a < (b < c)",
		"BEGIN", "COMMIT", "ROLLBACK",
		"SELECT * FROM t", "SELECT DISTINCT * FROM t LIMIT 0", "SELECT DISTINCT a, b + 1 AS c FROM t AS u",
		"SELECT a FROM t JOIN u ON t.a = u.a JOIN t AS w ON w.a IS NOT NULL WHERE (a OR b) AND c GROUP BY a, -(-b) ORDER BY a DESC, COUNT(*), b DESC LIMIT 9223372036854775807",
		"SELECT a FROM t WHERE b > 0 ORDER BY a", "SELECT (a = b) = c FROM t",
	}
}

func TestShown(t *testing.T) {
	for _, text := range texts() {
		s, e := parse.Read(text)
		if e != api.OK {
			t.Fatal(text, e)
		}
		if got, e := Statement(s); got != text || e != api.OK {
			t.Errorf("%s: %s %d", text, got, e)
		}
		got, e := Query(s.Query)
		switch s.Kind {
		case parse.KindQuery:
			if got != text || e != api.OK {
				t.Errorf("%s: %s %d", text, got, e)
			}
		case parse.KindView:
			if got != strings.TrimPrefix(text, "CREATE MATERIALIZED VIEW v AS ") || e != api.OK {
				t.Errorf("%s: %s %d", text, got, e)
			}
		default:
			if got != "" || e != api.ErrArg {
				t.Errorf("%s: %s %d", text, got, e)
			}
		}
	}
}

func TestShownOtherwise(t *testing.T) {
	for text, want := range map[string]string{
		"BEGIN ;":                             "BEGIN",
		"SELECT a FROM t AS t ORDER BY a ASC": "SELECT a FROM t ORDER BY a",
		"SELECT  a,b FROM t\nJOIN u AS u ON(a)ORDER BY(a)ASC,b LIMIT 7;": "SELECT a, b FROM t JOIN u ON a ORDER BY a, b LIMIT 7",
		"INSERT INTO t VALUES((1),- - 2);":                               "INSERT INTO t VALUES (1, -(-2))",
		"UPDATE t SET a=((b)) WHERE(a)--c":                               "UPDATE t SET a = b WHERE a",
	} {
		s, e := parse.Read(text)
		if e != api.OK {
			t.Fatal(text, e)
		}
		if got, e := Statement(s); got != want || e != api.OK {
			t.Errorf("%s: %s %d", text, got, e)
		}
	}
}

func TestWrong(t *testing.T) {
	good, _ := parse.Read("SELECT a FROM t")
	star, nameless, kind := good, good, good
	star.Query.Star = true
	nameless.Name = "t"
	kind.Kind = 12
	for i, s := range []parse.Statement{{}, {Kind: 14}, {Kind: 1, Name: "t"}, star, nameless, kind, {Kind: 4, Name: "SET"}} {
		if got, e := Statement(s); got != "" || e != api.ErrArg {
			t.Error(i, got, e)
		}
	}
	for i, q := range []parse.Query{{}, star.Query, {Star: true, Limit: -1}} {
		if got, e := Query(q); got != "" || e != api.ErrArg {
			t.Error(i, got, e)
		}
	}
}

func sum(t *testing.T, s string) expr.Expr {
	e, errno := expr.Parse(s)
	if errno != api.OK {
		t.Fatal(s, errno)
	}
	return e
}

func TestBoundOfWords(t *testing.T) {
	for n := api.MaxWords - 6; n <= api.MaxWords+6; n++ {
		s := exactly(t, n)
		text, e := Statement(s)
		if want := n <= api.MaxWords; want != (e == api.OK) || !want && (e != api.ErrLong || text != "") {
			t.Error(n, e, len(text))
		}
	}
}

// exactly is an INSERT of n words.
func exactly(t *testing.T, n int) parse.Statement {
	s := parse.Statement{Kind: parse.KindInsert, Name: "t"}
	left := n - 4 + 1
	for range 10 {
		var row []expr.Expr
		left -= 2
		for range 8 {
			row = append(row, sum(t, "a"))
			left -= 2
		}
		s.Rows = append(s.Rows, row)
	}
	// What is left is made up by longer expressions.
	for _, row := range s.Rows {
		for i := range row {
			for _, more := range []struct {
				text  string
				words int
			}{{"a+a+a+a+a+a+a+a", 14}, {"a+a+a", 4}, {"a+a", 2}, {"-a", 1}} {
				if left >= more.words {
					row[i], left = sum(t, more.text), left-more.words
					break
				}
			}
		}
	}
	if left != 0 {
		t.Fatal("words are left:", left)
	}
	return s
}

func TestBoundOfBytes(t *testing.T) {
	long := "'" + strings.Repeat("x", api.MaxText) + "'"
	s := parse.Statement{Kind: parse.KindInsert, Name: "t"}
	for range 5 {
		var row []expr.Expr
		for range 8 {
			row = append(row, sum(t, long))
		}
		s.Rows = append(s.Rows, row)
	}
	// "INSERT INTO t VALUES ", and of each expression and row two more bytes, but behind the last row.
	size := 21 + 40*104 + 5*2 - 2
	if text, e := Statement(s); text != "" || e != api.ErrLong {
		t.Error(len(text), e)
	}
	s.Rows[0] = s.Rows[0][:6]
	size -= 2 * 104
	for cut := range 60 {
		s.Rows[0][0] = sum(t, "'"+long[1:101-cut]+"'")
		text, e := Statement(s)
		if want := size-cut <= api.MaxSource; want != (e == api.OK) || want && len(text) != size-cut || !want && (e != api.ErrLong || text != "") {
			t.Fatal(cut, len(text), e)
		}
	}
}

// random makes an expression at most so deep.
func random(r *rand.Rand, deep int) expr.Expr {
	pick := func(l ...string) string { return l[r.Intn(len(l))] }
	kind := 1 + r.Intn(6)
	if deep == 1 {
		kind = 1 + r.Intn(2)
	}
	part := func() expr.Expr { return random(r, deep-1) }
	switch kind {
	case 1:
		return []expr.Expr{{Kind: 1}, {Kind: 1, V: api.Value{Kind: api.Int, N: r.Int63n(9)}}, {Kind: 1, V: api.Value{Kind: api.Text, S: pick("", "'", ";--", "\n")}}}[r.Intn(3)]
	case 2:
		return expr.Expr{Kind: 2, Table: pick("", "t"), Column: pick("a", "β")}
	case 3:
		return expr.Expr{Kind: 3, Op: pick("-", "NOT"), Parts: []expr.Expr{part()}}
	case 5:
		return expr.Expr{Kind: 5, Op: pick("IS NULL", "IS NOT NULL"), Parts: []expr.Expr{part()}}
	case 6:
		return expr.Expr{Kind: 6, Op: pick("COUNT", "SUM", "MIN", "MAX"), Parts: []expr.Expr{part()}}
	}
	return expr.Expr{Kind: 4, Op: pick("OR", "AND", "=", "<", "+", "-", "*"), Parts: []expr.Expr{part(), part()}}
}

func randomList(r *rand.Rand, least, most int) []expr.Expr {
	var l []expr.Expr
	for range least + r.Intn(most-least+1) {
		l = append(l, random(r, 1+r.Intn(4)))
	}
	return l
}

func randomQuery(r *rand.Rand) parse.Query {
	q := parse.Query{Distinct: r.Intn(2) == 0, Star: r.Intn(3) == 0, Where: randomList(r, 0, 1), Group: randomList(r, 0, 2), Limit: r.Int63n(4) - 1}
	name := func() string { return []string{"t", "u"}[r.Intn(2)] }
	if !q.Star {
		for _, e := range randomList(r, 1, 3) {
			q.Items = append(q.Items, parse.Item{E: e, Name: []string{"", "n"}[r.Intn(2)]})
		}
	}
	q.Sources = []parse.Source{{Table: name(), Name: name()}}
	for _, e := range randomList(r, 0, 2) {
		q.Sources = append(q.Sources, parse.Source{Table: name(), Name: name(), On: e})
	}
	for _, e := range randomList(r, 0, 3) {
		q.Order = append(q.Order, parse.Order{E: e, Desc: r.Intn(2) == 0})
	}
	return q
}

func randomStatement(r *rand.Rand) parse.Statement {
	s := parse.Statement{Kind: 7 + r.Intn(4), Name: "t"}
	switch s.Kind {
	case 7:
		for range 1 + r.Intn(3) {
			s.Rows = append(s.Rows, randomList(r, 1, 3))
		}
	case 8:
		for _, e := range randomList(r, 1, 3) {
			s.Sets = append(s.Sets, parse.Assign{Column: "c", E: e})
		}
		s.Where = randomList(r, 0, 1)
	case 9:
		s.Where = randomList(r, 0, 1)
	case 10:
		s.Query = randomQuery(r)
		s.Name = ""
		if r.Intn(2) == 0 {
			s.Kind, s.Name = 3, "v"
		}
	}
	return s
}

func TestReadUndoesStatement(t *testing.T) {
	r := rand.New(rand.NewSource(8))
	for range 3000 {
		s := randomStatement(r)
		text, e := Statement(s)
		if e != api.OK {
			t.Fatal(s, e)
		}
		if back, e := parse.Read(text); !parse.Same(back, s) || e != api.OK {
			t.Fatal(text, back, e)
		}
	}
}
