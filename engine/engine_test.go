package engine

import (
	"math/rand"
	"slices"
	"strconv"
	"strings"
	"testing"

	"wainscot/api"
	"wainscot/catalog"
	"wainscot/delta"
	"wainscot/disk"
	"wainscot/keys"
	"wainscot/pager"
	"wainscot/rows"
	"wainscot/tree"
	"wainscot/value"
)

func check(t *testing.T, what string, got, want api.Errno) {
	t.Helper()
	if got != want {
		t.Fatalf("%s: %d, not %d", what, got, want)
	}
}

func open(t *testing.T, d *disk.Disk, cache int) *Engine {
	t.Helper()
	e, errno := Open(d, cache)
	check(t, "open", errno, api.OK)
	return e
}

func newEngine(t *testing.T) *Engine {
	t.Helper()
	return open(t, disk.New(1<<20), 10)
}

// run does statements, none of which fails.
func run(t *testing.T, e *Engine, list ...string) Answer {
	t.Helper()
	var a Answer
	for _, s := range list {
		var errno api.Errno
		a, errno = e.Exec(s)
		check(t, s, errno, api.OK)
	}
	return a
}

func shown(list [][]api.Value) string {
	var l []string
	for _, row := range list {
		var words []string
		for _, v := range row {
			switch v.Kind {
			case api.Null:
				words = append(words, "N")
			case api.Int:
				words = append(words, strconv.FormatInt(v.N, 10))
			default:
				words = append(words, v.S)
			}
		}
		l = append(l, strings.Join(words, " "))
	}
	return strings.Join(l, "; ")
}

func sameAnswer(a, b Answer) bool {
	return slices.Equal(a.Names, b.Names) && a.N == b.N && slices.EqualFunc(a.Rows, b.Rows, func(x, y []api.Value) bool { return value.Rows(x, y) == 0 })
}

func sameObject(a, b catalog.Object) bool {
	return a.Kind == b.Kind && a.Name == b.Name && a.On == b.On && slices.Equal(a.Columns, b.Columns) && slices.Equal(a.Keys, b.Keys) && a.Unique == b.Unique && slices.Equal(a.Uses, b.Uses)
}

func sameRow(a, b rows.Row) bool { return a.ID == b.ID && value.Rows(a.Values, b.Values) == 0 }

// as asks whether an engine is as the model.
func as(t *testing.T, what string, e *Engine, m *model) {
	t.Helper()
	if e.Busy() != m.busy() {
		t.Fatal(what, "busy", e.Busy())
	}
	objects := e.Objects()
	if !slices.EqualFunc(objects, m.told(), sameObject) {
		t.Fatal(what, "objects", objects, m.told())
	}
	for i, o := range m.objects {
		list, errno := e.Rows(o.name)
		entries, errnoOfView := e.Entries(o.name)
		switch o.kind {
		case 1:
			if errno != api.OK || !slices.EqualFunc(list, m.rows[o.name], sameRow) {
				t.Fatal(what, o.name, list, m.rows[o.name], errno)
			}
			check(t, "entries of a table", errnoOfView, api.ErrNone)
		case 2:
			check(t, "rows of an index", errno, api.ErrNone)
			check(t, "entries of an index", errnoOfView, api.ErrNone)
		case 3:
			want, bad := m.entries(o)
			if errnoOfView != api.OK || bad != api.OK || !slices.EqualFunc(entries, want, sameEntry) {
				t.Fatal(what, o.name, entries, want, errnoOfView, bad)
			}
			check(t, "rows of a view", errno, api.ErrNone)
			if len(objects[i].Text) == 0 {
				t.Fatal(what, "a view without a text")
			}
		}
	}
	noPageIsLost(t, what, e)
}

func noPageIsLost(t *testing.T, what string, e *Engine) {
	t.Helper()
	reached, errno := e.Reach()
	check(t, "reach", errno, api.OK)
	pages, free, cached := e.Pages()
	if !slices.IsSorted(reached) || len(slices.Compact(slices.Clone(reached))) != len(reached) || slices.Contains(reached, 0) || 1+free+len(reached) != pages {
		t.Fatal(what, "pages", pages, free, reached)
	}
	if cached > mostCached {
		t.Fatal(what, "cached", cached)
	}
}

// mostCached is how many pages the tests let a cache hold at most.
const mostCached = 10

func TestExample(t *testing.T) {
	e := newEngine(t)
	if a := run(t, e, "CREATE TABLE t (a INT)", "INSERT INTO t VALUES (1)"); !sameAnswer(a, Answer{N: 1}) {
		t.Error(a)
	}
	if a := run(t, e, "SELECT a FROM t"); !sameAnswer(a, Answer{Names: []string{"a"}, Rows: [][]api.Value{{number(1)}}}) {
		t.Error(a)
	}
}

func TestOpenErrors(t *testing.T) {
	for _, cache := range []int{3, 101} {
		if e, errno := Open(disk.New(1000), cache); e != nil || errno != api.ErrArg {
			t.Error(errno)
		}
	}
	if e, errno := Open(nil, 4); e != nil || errno != api.ErrArg {
		t.Error(errno)
	}
	open(t, disk.New(0), 4)
}

// What a pager may have written isn't always an engine's work.
func TestOpenBad(t *testing.T) {
	build := func() *disk.Disk {
		d := disk.New(1 << 20)
		e := open(t, d, 10)
		run(t, e, "CREATE TABLE t (a INT UNIQUE, b TEXT)", "INSERT INTO t VALUES (1, 'x'), (2, 'y')", "CREATE INDEX i ON t (b)", "CREATE MATERIALIZED VIEW v AS SELECT b, COUNT(*) AS n FROM t GROUP BY b", "CREATE TABLE u (a INT)", "DROP TABLE u")
		return d
	}
	d := build()
	p, _ := pager.Open(d, 10)
	pages := p.Pages()
	for n := 1; n < pages; n++ {
		for _, change := range []func(p *pager.Pager) api.Errno{
			func(p *pager.Pager) api.Errno { return p.Put(n, []byte("junk")) }, func(p *pager.Pager) api.Errno { return p.Put(n, []byte{1}) }, func(p *pager.Pager) api.Errno { return p.Give(n) },
		} {
			d := build()
			p, _ := pager.Open(d, 10)
			if e := change(p); e == api.ErrNone {
				continue
			}
			check(t, "commit", p.Commit(), api.OK)
			if e, errno := Open(d, 10); e != nil || errno != api.ErrBad {
				t.Error(n, errno)
			}
		}
	}
	for i, change := range []func(p *pager.Pager, own int){
		func(p *pager.Pager, own int) { p.SetRoot(0, 0) }, func(p *pager.Pager, own int) { p.SetRoot(0, own+1) }, func(p *pager.Pager, own int) { p.SetRoot(0, 9999) }, func(p *pager.Pager, own int) { p.SetRoot(1, own) }, func(p *pager.Pager, own int) { p.SetRoot(7, 1) },
		func(p *pager.Pager, own int) { p.Take(); p.Take() }, func(p *pager.Pager, own int) { tree.Create(p) }, func(p *pager.Pager, own int) { tree.Put(p, own, []byte("zzz"), nil) }, func(p *pager.Pager, own int) {
			key, _, _, _ := tree.Next(p, own, nil, true)
			tree.Delete(p, own, key)
		}, func(p *pager.Pager, own int) {
			key, _, _, _ := tree.Last(p, own)
			tree.Delete(p, own, key)
		}, func(p *pager.Pager, own int) {
			key, _, _, _ := tree.Last(p, own)
			tree.Put(p, own, key, []byte{0})
		}, func(p *pager.Pager, own int) {
			key, value, _, _ := tree.Next(p, own, nil, true)
			tree.Put(p, own, key, value[1:])
		},
	} {
		d := build()
		p, _ := pager.Open(d, 10)
		change(p, p.Root(0))
		check(t, "commit", p.Commit(), api.OK)
		if e, errno := Open(d, 10); e != nil || errno != api.ErrBad {
			t.Error(i, errno)
		}
	}
	// A row, an entry of an index and one of a view that no statement left there.
	e := open(t, build(), 10)
	table, _ := e.table("t")
	view, _ := e.catalog.Find("v")
	for i, c := range []struct{ root int }{{table.Root}, {table.Indexes[0].Root}, {table.Indexes[1].Root}, {view.Root}} {
		for _, put := range []bool{false, true} {
			d := build()
			p, _ := pager.Open(d, 10)
			key, value, _, _ := tree.Last(p, c.root)
			if put {
				key[len(key)-1]++
				check(t, "put", tree.Put(p, c.root, key, value), api.OK)
			} else if _, errno := tree.Delete(p, c.root, key); errno != api.OK {
				t.Fatal(errno)
			}
			check(t, "commit", p.Commit(), api.OK)
			if e, errno := Open(d, 10); e != nil || errno != api.ErrBad {
				t.Error(i, put, errno)
			}
		}
	}
	open(t, build(), 4)
}

func TestNil(t *testing.T) {
	for _, e := range []*Engine{nil, {}} {
		_, a := e.Exec("BEGIN")
		_, b := e.Rows("t")
		_, c := e.Entries("t")
		_, d := e.Reach()
		for _, errno := range []api.Errno{a, b, c, d} {
			check(t, "call", errno, api.ErrArg)
		}
		pages, free, cached := e.Pages()
		if e.Busy() || len(e.Objects()) != 0 || pages != 0 || free != 0 || cached != 0 {
			t.Error("nil isn't zero")
		}
	}
}

func x(n int) string { return strings.Repeat("x", n) }

// Each statement's errors, in the order of the questions.
func TestErrors(t *testing.T) {
	e, m := newEngine(t), newModel()
	for _, s := range []string{
		"CREATE TABLE t (a INT UNIQUE, b TEXT NOT NULL, c INT)", "CREATE TABLE u (d INT, e TEXT)", "CREATE INDEX i ON u (e)", "INSERT INTO t VALUES (1, 'x', 5), (2, 'y', 9223372036854775807), (NULL, 'z', NULL)", "INSERT INTO u VALUES (1, 'k'), (2, 'l')", "CREATE MATERIALIZED VIEW v AS SELECT b, COUNT(*) AS n, SUM(c) AS s FROM t GROUP BY b", "CREATE MATERIALIZED VIEW w AS SELECT e, c FROM t JOIN u ON a = d",
	} {
		_, errno := e.Exec(s)
		check(t, s, errno, api.OK)
		_, errno = m.exec(s)
		check(t, s, errno, api.OK)
	}
	long := "'" + x(100) + "'"
	for _, c := range []struct {
		s string
		e api.Errno
	}{
		{"nonsense", api.ErrSyntax}, {strings.Repeat(" ", 4001), api.ErrLong}, {"SELECT NOT NOT NOT NOT NOT NOT NOT NOT a FROM t", api.ErrDeep}, {"COMMIT", api.ErrState}, {"ROLLBACK", api.ErrState},
		{"CREATE TABLE t (a INT, a INT)", api.ErrExists}, {"CREATE TABLE v (a INT)", api.ErrExists}, {"CREATE TABLE i (a INT)", api.ErrExists}, {"CREATE TABLE z (a INT, a TEXT)", api.ErrName},
		{"CREATE INDEX i ON zzz (a)", api.ErrExists}, {"CREATE INDEX t ON zzz (a)", api.ErrExists}, {"CREATE INDEX j ON zzz (a)", api.ErrNone}, {"CREATE INDEX j ON v (b)", api.ErrNone}, {"CREATE INDEX j ON i (b)", api.ErrNone}, {"CREATE INDEX j ON t (a, d)", api.ErrName}, {"CREATE INDEX j ON t (a, a)", api.ErrName},
		{"CREATE MATERIALIZED VIEW t AS SELECT a FROM zzz", api.ErrExists}, {"CREATE MATERIALIZED VIEW z AS SELECT a FROM zzz", api.ErrNone}, {"CREATE MATERIALIZED VIEW z AS SELECT q FROM t ORDER BY a", api.ErrName}, {"CREATE MATERIALIZED VIEW z AS SELECT DISTINCT a FROM t", api.ErrState}, {"CREATE MATERIALIZED VIEW z AS SELECT b FROM v", api.ErrState}, {"CREATE MATERIALIZED VIEW z AS SELECT x.a FROM t AS x JOIN t AS y ON x.a = y.a", api.ErrState}, {"CREATE MATERIALIZED VIEW z AS SELECT COUNT(*) AS n FROM t", api.ErrState}, {"CREATE MATERIALIZED VIEW z AS SELECT a FROM t LIMIT 3", api.ErrState},
		{"CREATE MATERIALIZED VIEW z AS SELECT a + 1 FROM t WHERE b = " + strings.Join(slices.Repeat([]string{long}, 9), " OR b = "), api.ErrDeep}, {"CREATE MATERIALIZED VIEW z AS SELECT a + 1 FROM t WHERE " + strings.Join(slices.Repeat([]string{"(b = " + long + " OR b = " + long + ")"}, 5), " AND "), api.ErrLarge},
		{"CREATE MATERIALIZED VIEW z AS SELECT a, a FROM t", api.ErrName}, {"CREATE MATERIALIZED VIEW z AS SELECT a + 1 FROM t", api.ErrName}, {"CREATE MATERIALIZED VIEW z AS SELECT a, c AS a FROM t", api.ErrName}, {"CREATE MATERIALIZED VIEW z AS SELECT c + c AS c2 FROM t", api.ErrOver}, {"CREATE MATERIALIZED VIEW z AS SELECT b, SUM(c + c) AS s FROM t GROUP BY b", api.ErrOver},
		{"DROP TABLE zzz", api.ErrNone}, {"DROP TABLE v", api.ErrNone}, {"DROP INDEX t", api.ErrNone}, {"DROP VIEW i", api.ErrNone}, {"DROP TABLE t", api.ErrState}, {"DROP TABLE u", api.ErrState},
		{"INSERT INTO zzz VALUES (q)", api.ErrNone}, {"INSERT INTO v VALUES (1)", api.ErrNone}, {"INSERT INTO i VALUES (1)", api.ErrNone}, {"INSERT INTO t VALUES (1), (a)", api.ErrName}, {"INSERT INTO t VALUES (1), (1 = 1, q)", api.ErrType}, {"INSERT INTO t VALUES (1, q), (1 = 1)", api.ErrName}, {"INSERT INTO t VALUES (COUNT(*), 'b', 1)", api.ErrType}, {"INSERT INTO t VALUES (9, 'b', 1), (9223372036854775807 + 1, 'q', 1)", api.ErrOver}, {"INSERT INTO t VALUES (9, 'b'), (9223372036854775807 + 1, 'q', 1)", api.ErrType}, {"INSERT INTO t VALUES (9, NULL, 1)", api.ErrNull}, {"INSERT INTO t VALUES ('x', NULL, 1)", api.ErrType}, {"INSERT INTO t VALUES (9, 'q', 1), (1, 'q', 1)", api.ErrUnique}, {"INSERT INTO t VALUES (9, 'q', 1), (9, 'q', 1)", api.ErrUnique},
		{"INSERT INTO t VALUES (9, 'y', 1)", api.ErrOver}, {"INSERT INTO u VALUES (2, 'm'), (3, " + long + ")", api.OK}, {"INSERT INTO t VALUES (3, 'a', 1)", api.OK}, {"INSERT INTO t VALUES (4, 'b', 1)", api.OK}, {"UPDATE u SET e = " + long + " WHERE d = 2", api.OK},
		{"UPDATE zzz SET q = 1", api.ErrNone}, {"UPDATE v SET b = 'x'", api.ErrNone}, {"UPDATE t SET q = zzz, a = 1", api.ErrName}, {"UPDATE t SET a = 1, a = 1 + 'x'", api.ErrName}, {"UPDATE t SET a = zzz, c = 1 = 1", api.ErrName}, {"UPDATE t SET a = 1 = 1, c = zzz", api.ErrType}, {"UPDATE t SET a = SUM(c)", api.ErrType}, {"UPDATE t SET a = 1 WHERE zzz = 1", api.ErrName}, {"UPDATE t SET a = 1 WHERE c", api.ErrType}, {"UPDATE t SET b = 'x' + 1 WHERE zzz", api.ErrType},
		{"UPDATE t SET a = 'x' WHERE c + 1 > 0", api.ErrOver}, {"UPDATE t SET a = c + 1, b = NULL", api.ErrOver}, {"UPDATE t SET a = 'x'", api.ErrType}, {"UPDATE t SET a = 'x' WHERE 1 = 2", api.OK}, {"UPDATE t SET b = NULL WHERE a = 1", api.ErrNull}, {"UPDATE t SET a = 7", api.ErrUnique}, {"UPDATE t SET a = 7, b = NULL", api.ErrNull}, {"UPDATE t SET c = 9223372036854775807, b = 'q'", api.ErrOver}, {"UPDATE t SET a = 3 - a WHERE a < 3", api.OK}, {"UPDATE t SET a = a + 1", api.OK}, {"UPDATE t SET a = NULL", api.OK},
		{"DELETE FROM zzz WHERE q", api.ErrNone}, {"DELETE FROM v", api.ErrNone}, {"DELETE FROM t WHERE q = 1", api.ErrName}, {"DELETE FROM t WHERE a", api.ErrType}, {"DELETE FROM t WHERE c * 2 > 0", api.ErrOver}, {"DELETE FROM t WHERE c = 1 AND b = 'a'", api.OK},
		{"SELECT q FROM zzz", api.ErrNone}, {"SELECT q FROM t", api.ErrName}, {"SELECT a FROM t JOIN t ON 1", api.ErrExists}, {"SELECT c + 1 FROM t", api.ErrOver}, {"SELECT n, s FROM v WHERE n > 0", api.OK}, {"SELECT * FROM w JOIN v ON c = s", api.OK}, {"SELECT s + 1 FROM v", api.ErrOver}, {"SELECT b FROM v AS x JOIN v AS x ON 1 = 1", api.ErrExists},
		{"DROP INDEX i", api.OK}, {"INSERT INTO u VALUES (1, " + long + ")", api.OK}, {"CREATE INDEX i ON u (e, d)", api.ErrLarge}, {"CREATE UNIQUE INDEX i ON u (d)", api.ErrUnique}, {"CREATE UNIQUE INDEX i ON u (d, zzz)", api.ErrName}, {"DROP VIEW w", api.OK}, {"DROP TABLE u", api.OK}, {"DROP VIEW v", api.OK}, {"DROP TABLE t", api.OK},
	} {
		a, errno := e.Exec(c.s)
		b, want := m.exec(c.s)
		if errno != c.e || errno == api.OK && (want != api.OK || !sameAnswer(a, b)) || errno != api.OK && !sameAnswer(a, Answer{}) {
			t.Errorf("%s: %v %d, not %d (%d)", c.s, a, errno, c.e, want)
			return
		}
		if errno != want && c.e != api.ErrLarge {
			t.Errorf("%s: the model says %d", c.s, want)
			return
		}
		as(t, c.s, e, m)
	}
}

func TestLong(t *testing.T) {
	e := newEngine(t)
	run(t, e, "CREATE TABLE t (a INT, b INT, c INT, d INT, e INT)", "CREATE TABLE u (f INT, g INT, h INT, i INT)")
	_, errno := e.Exec("CREATE MATERIALIZED VIEW v AS SELECT * FROM t JOIN u ON a = f")
	check(t, "nine columns", errno, api.ErrLong)
	_, errno = e.Exec("CREATE MATERIALIZED VIEW v AS SELECT * FROM u JOIN t ON a = f WHERE x = 1")
	check(t, "nine columns, and a wrong name", errno, api.ErrName)
	run(t, e, "CREATE TABLE w (j INT, k INT, l INT)", "CREATE MATERIALIZED VIEW v AS SELECT * FROM t JOIN w ON a = j")
}

func TestLargeEntries(t *testing.T) {
	e := newEngine(t)
	run(t, e, "CREATE TABLE t (a TEXT, b TEXT)", "INSERT INTO t VALUES ('"+x(60)+"', '"+x(54)+"')", "CREATE MATERIALIZED VIEW v AS SELECT a, b FROM t")
	_, errno := e.Exec("INSERT INTO t VALUES ('" + x(60) + "', '" + x(55) + "')")
	check(t, "a key too large", errno, api.ErrLarge)
	_, errno = e.Exec("UPDATE t SET b = '" + x(55) + "'")
	check(t, "a key too large", errno, api.ErrLarge)
	run(t, e, "DROP VIEW v", "INSERT INTO t VALUES ('"+x(60)+"', '"+x(55)+"')")
	_, errno = e.Exec("CREATE MATERIALIZED VIEW v AS SELECT a, b FROM t")
	check(t, "a key too large", errno, api.ErrLarge)
	noPageIsLost(t, "behind errors", e)
	run(t, e, "CREATE MATERIALIZED VIEW v AS SELECT a FROM t")
}

func TestFullOfObjects(t *testing.T) {
	e, m := newEngine(t), newModel()
	do := func(s string, want api.Errno) {
		t.Helper()
		_, errno := e.Exec(s)
		_, model := m.exec(s)
		check(t, s, errno, want)
		check(t, s, model, want)
		as(t, s, e, m)
	}
	do("CREATE TABLE t (a INT UNIQUE, b TEXT)", api.OK)
	for i := range api.MaxViews {
		do("CREATE MATERIALIZED VIEW v"+strconv.Itoa(i)+" AS SELECT a FROM t", api.OK)
	}
	do("CREATE MATERIALIZED VIEW v AS SELECT a FROM t", api.ErrFull)
	for i := api.MaxViews + 1; i < api.MaxObjects; i++ {
		do("CREATE INDEX i"+strconv.Itoa(i)+" ON t (b, a)", api.OK)
	}
	do("CREATE TABLE u (a INT UNIQUE, b INT UNIQUE)", api.ErrFull)
	do("CREATE INDEX i ON t (a)", api.ErrFull)
	do("INSERT INTO t VALUES (1, 'x')", api.OK)
	do("DROP VIEW v0", api.OK)
	do("CREATE MATERIALIZED VIEW v AS SELECT b FROM t", api.OK)
}

func TestTransactions(t *testing.T) {
	d := disk.New(1 << 20)
	e := open(t, d, 10)
	run(t, e, "CREATE TABLE t (a INT UNIQUE)", "INSERT INTO t VALUES (1)", "BEGIN")
	if !e.Busy() {
		t.Error("not busy")
	}
	_, errno := e.Exec("BEGIN")
	check(t, "begin twice", errno, api.ErrState)
	run(t, e, "INSERT INTO t VALUES (2)")
	_, errno = e.Exec("INSERT INTO t VALUES (3), (1)")
	check(t, "twice", errno, api.ErrUnique)
	if a := run(t, e, "SELECT a FROM t"); shown(a.Rows) != "1; 2" || !e.Busy() {
		t.Error(shown(a.Rows))
	}
	run(t, e, "CREATE TABLE u (b INT)", "DROP TABLE t", "ROLLBACK")
	if a := run(t, e, "SELECT a FROM t"); shown(a.Rows) != "1" || e.Busy() || len(e.Objects()) != 1 {
		t.Error(shown(a.Rows), e.Objects())
	}
	noPageIsLost(t, "rolled back", e)
	run(t, e, "BEGIN", "INSERT INTO t VALUES (5)", "COMMIT", "BEGIN", "INSERT INTO t VALUES (6)")
	if a := run(t, open(t, d, 10), "SELECT a FROM t"); shown(a.Rows) != "1; 5" {
		t.Error("what wasn't committed is there:", shown(a.Rows))
	}
}

func TestQueries(t *testing.T) {
	e := newEngine(t)
	run(t, e, "CREATE TABLE t (a INT, b TEXT)", "CREATE TABLE u (c INT, d TEXT)", "CREATE INDEX i ON u (c)", "INSERT INTO t VALUES (1, 'x'), (2, 'y'), (1 + 2, NULL)", "INSERT INTO u VALUES (1, 'k'), (3, 'l'), (3, 'm')", "CREATE MATERIALIZED VIEW v AS SELECT b, COUNT(*) AS n FROM t GROUP BY b", "CREATE MATERIALIZED VIEW w AS SELECT d, a FROM t JOIN u ON a = c", "INSERT INTO t VALUES (3, 'y')")
	for s, want := range map[string][2]string{
		"SELECT a, d FROM t JOIN u ON a = c ORDER BY d DESC": {"a d", "3 m; 3 m; 3 l; 3 l; 1 k"}, "SELECT * FROM v": {"b n", "N 1; x 1; y 2"}, "SELECT * FROM w": {"d a", "k 1; l 3; l 3; m 3; m 3"}, "SELECT d, n FROM w JOIN v ON n = a": {"d n", "k 1; k 1"}, "SELECT SUM(n) AS s, COUNT(*) FROM v": {"s ", "4 3"}, "SELECT t.b FROM t JOIN v ON t.b = v.b WHERE n = 2": {"b", "y; y"}, "SELECT b FROM t WHERE b IS NULL OR a = 1": {"b", "N; x"}, "SELECT DISTINCT n FROM v LIMIT 1": {"n", "1"},
	} {
		a := run(t, e, s)
		if strings.Join(a.Names, " ") != want[0] || shown(a.Rows) != want[1] || a.N != 0 {
			t.Errorf("%s: %v %s", s, a.Names, shown(a.Rows))
		}
	}
	for i := range 7 {
		run(t, e, "INSERT INTO t VALUES (3, '"+strconv.Itoa(i)+"'), (3, 'x'), (1, 'x')")
	}
	// w has more rows than a table may have: three of it are too many combinations.
	if _, errno := e.Exec("SELECT COUNT(*) FROM w AS x JOIN w AS y ON 1 = 1 JOIN w AS z ON 1 = 1"); errno != api.OK {
		t.Error(errno)
	}
	run(t, e, "UPDATE u SET c = 3", "UPDATE t SET a = 3")
	if _, errno := e.Exec("SELECT COUNT(*) FROM w AS x JOIN w AS y ON 1 = 1 JOIN w AS z ON 1 = 1"); errno != api.ErrLarge {
		t.Error(errno)
	}
}

func TestNumbersAreKept(t *testing.T) {
	e := newEngine(t)
	run(t, e, "CREATE TABLE t (a INT)", "INSERT INTO t VALUES (1), (2), (3)", "DELETE FROM t WHERE a = 2", "UPDATE t SET a = a * 10", "INSERT INTO t VALUES (4)")
	list, errno := e.Rows("t")
	check(t, "rows", errno, api.OK)
	want := []rows.Row{{ID: 1, Values: []api.Value{number(10)}}, {ID: 3, Values: []api.Value{number(30)}}, {ID: 4, Values: []api.Value{number(4)}}}
	if !slices.EqualFunc(list, want, sameRow) {
		t.Error(list)
	}
	_, errno = e.Rows("zzz")
	check(t, "rows of nothing", errno, api.ErrNone)
	_, errno = e.Entries("zzz")
	check(t, "entries of nothing", errno, api.ErrNone)
}

func TestEntries(t *testing.T) {
	e := newEngine(t)
	run(t, e, "CREATE TABLE t (a INT, b INT)", "CREATE MATERIALIZED VIEW v AS SELECT a, SUM(b) AS s, COUNT(*) AS n FROM t GROUP BY a", "INSERT INTO t VALUES (1, -5), (1, NULL), (2, 7)")
	list, errno := e.Entries("v")
	check(t, "entries", errno, api.OK)
	want := []delta.Entry{{Key: []api.Value{number(1)}, N: 2, Sums: []delta.Sum{{N: 1, Total: -5}, {N: 2}}}, {Key: []api.Value{number(2)}, N: 1, Sums: []delta.Sum{{N: 1, Total: 7}, {N: 1}}}}
	if !slices.EqualFunc(list, want, sameEntry) {
		t.Error(list)
	}
}

// Where the disk has no room, nothing is changed, and a transaction stays open.
func TestFullDisk(t *testing.T) {
	d := disk.New(1 << 20)
	e, m := open(t, d, 10), newModel()
	do := func(s string, want api.Errno) {
		t.Helper()
		_, errno := e.Exec(s)
		check(t, s, errno, want)
		if want == api.OK {
			_, errno := m.exec(s)
			check(t, s, errno, want)
		}
		as(t, s, e, m)
	}
	do("CREATE TABLE t (a INT UNIQUE, b TEXT)", api.OK)
	do("CREATE MATERIALIZED VIEW v AS SELECT b, COUNT(*) AS n FROM t GROUP BY b", api.OK)
	do("INSERT INTO t VALUES (1, 'x'), (2, 'y')", api.OK)
	d.SetRoom(0)
	do("INSERT INTO t VALUES (3, 'z')", api.ErrFull)
	do("CREATE TABLE u (a INT)", api.ErrFull)
	do("BEGIN", api.OK)
	do("INSERT INTO t VALUES (3, 'z')", api.OK)
	do("COMMIT", api.ErrFull)
	do("DELETE FROM t WHERE a = 1", api.OK)
	do("COMMIT", api.ErrFull)
	d.SetRoom(1 << 20)
	do("COMMIT", api.OK)
	as(t, "opened", open(t, d, 10), m)
	d.SetRoom(0)
	do("BEGIN", api.OK)
	do("DROP VIEW v", api.OK)
	do("COMMIT", api.ErrFull)
	do("ROLLBACK", api.OK)
	do("UPDATE t SET a = a WHERE a = 2", api.OK)
	as(t, "opened", open(t, d, 10), m)
}

func TestOver(t *testing.T) {
	d := disk.New(1 << 20)
	e := open(t, d, 10)
	run(t, e, "CREATE TABLE t (a INT)", "INSERT INTO t VALUES (1)")
	d.SetFuse(2)
	_, errno := e.Exec("INSERT INTO t VALUES (2)")
	check(t, "the power goes", errno, api.ErrDisk)
	d.Crash(nil)
	for _, s := range []string{"SELECT a FROM t", "nonsense", "BEGIN", "COMMIT", "INSERT INTO t VALUES (2)"} {
		a, errno := e.Exec(s)
		if errno != api.ErrDisk || !sameAnswer(a, Answer{}) {
			t.Error(s, errno)
		}
	}
	_, a := e.Rows("t")
	_, b := e.Entries("zzz")
	_, c := e.Reach()
	for _, errno := range []api.Errno{a, b, c} {
		check(t, "over", errno, api.ErrDisk)
	}
	if a := run(t, open(t, d, 10), "SELECT a FROM t"); shown(a.Rows) != "1" {
		t.Error(shown(a.Rows))
	}
}

// writer makes statements at random, most of them right.
type writer struct{ r *rand.Rand }

func (w writer) pick(l ...string) string { return l[w.r.Intn(len(l))] }

func (w writer) some(most int, one func() string) string {
	var l []string
	for range 1 + w.r.Intn(most) {
		l = append(l, one())
	}
	return strings.Join(l, ", ")
}

func (w writer) number() string {
	return w.pick("0", "1", "2", "3", "NULL", "-1", "2 + 1", "9223372036854775807", "1", "2", strconv.Itoa(w.r.Intn(40)))
}

func (w writer) text() string {
	return w.pick("'x'", "'y'", "''", "NULL", "'it''s'", "'x'", "'"+x(w.r.Intn(101))+"'")
}

func (w writer) condition() string {
	return w.pick("a = 1", "a > 1", "b = 'x'", "NOT a = 2 AND b <> 'y'", "c IS NULL", "a IS NOT NULL", "a + c > 2", "c = 1 OR a = 2", "b < 'y'", "a = c", "a = "+w.number(), "c = "+w.number(), "zzz = 1", "a")
}

func (w writer) query() string {
	switch w.r.Intn(6) {
	case 0:
		return "SELECT " + w.pick("*", "a", "DISTINCT b, c", "a + c", "COUNT(*), SUM(a), MIN(b)") + " FROM " + w.pick("t", "u", "t", "s") + w.pick("", " WHERE "+w.condition()) + w.pick("", " ORDER BY a DESC", " LIMIT 2")
	case 1:
		return "SELECT t.a, u.b FROM t JOIN u ON t.a = u.a" + w.pick("", " AND t.b = 'x'", " WHERE u.c = 1", " WHERE t.b = 'x'")
	case 2:
		return "SELECT b, COUNT(*), SUM(c) FROM " + w.pick("t", "u") + " GROUP BY b ORDER BY COUNT(*), b"
	case 3:
		return "SELECT * FROM " + w.pick("v", "w", "x", "y")
	case 4:
		return "SELECT COUNT(*), SUM(n) FROM " + w.pick("v", "w") + " WHERE n > 1"
	}
	return "SELECT x.a FROM t AS x JOIN u AS y ON x.c = y.c JOIN s AS z ON z.a = x.a"
}

func (w writer) view() string {
	return w.pick("SELECT a, b FROM t WHERE a > 0", "SELECT b, COUNT(*) AS n, SUM(a) AS m FROM t GROUP BY b", "SELECT c + 1 AS k, COUNT(b) AS n, SUM(a + c) AS m FROM u GROUP BY c + 1", "SELECT t.a AS p, u.b AS q FROM t JOIN u ON t.a = u.a", "SELECT u.b AS q, COUNT(*) AS n, SUM(t.c) AS m FROM t JOIN u ON t.a = u.a WHERE t.c IS NOT NULL GROUP BY u.b", "SELECT a * 2 AS d FROM s", "SELECT MIN(a) AS m FROM t GROUP BY b", "SELECT n FROM v", "SELECT a AS n, b, c FROM s")
}

func (w writer) statement() string {
	table := w.pick("t", "t", "t", "u", "u", "s", "v", "zzz")
	switch k := w.r.Intn(60); {
	case k < 22:
		return "INSERT INTO " + table + " VALUES " + w.some(3, func() string { return "(" + w.number() + ", " + w.text() + ", " + w.number() + ")" })
	case k < 30:
		return "UPDATE " + table + " SET " + w.pick("a = a + 1", "b = "+w.text(), "c = "+w.number(), "a = c, c = a", "a = "+w.number()+", b = "+w.text(), "b = a") + w.pick("", " WHERE "+w.condition(), " WHERE "+w.condition())
	case k < 37:
		return "DELETE FROM " + table + w.pick(" WHERE "+w.condition(), " WHERE a = "+w.number(), " WHERE c = "+w.number(), "")
	case k < 46:
		return w.query()
	case k < 49:
		return "BEGIN"
	case k < 51:
		return w.pick("COMMIT", "COMMIT", "ROLLBACK")
	case k < 54:
		return w.pick("CREATE TABLE t (a INT UNIQUE, b TEXT, c INT)", "CREATE TABLE u (a INT, b TEXT NOT NULL, c INT)", "CREATE TABLE s (a INT, b TEXT UNIQUE, c INT)", "CREATE TABLE s (a INT, b INT, c TEXT)")
	case k < 56:
		return "CREATE " + w.pick("", "UNIQUE ") + "INDEX " + w.pick("i", "j", "k") + " ON " + w.pick("t", "u", "s") + " (" + w.pick("a", "b", "c, a", "b, a", "zzz", "a, b, c") + ")"
	case k < 58:
		return "CREATE MATERIALIZED VIEW " + w.pick("v", "w", "x", "y") + " AS " + w.view()
	}
	return "DROP " + w.pick("TABLE t", "TABLE u", "TABLE s", "INDEX i", "INDEX j", "INDEX k", "VIEW v", "VIEW w", "VIEW x", "VIEW y", "VIEW t")
}

func TestAsTheModel(t *testing.T) {
	met := map[api.Errno]int{}
	for seed := range 25 {
		w := writer{rand.New(rand.NewSource(int64(seed)))}
		d := disk.New(1 << 20)
		cache := []int{4, 6, 10}[seed%3]
		e, m := open(t, d, cache), newModel()
		start := []string{"CREATE TABLE t (a INT UNIQUE, b TEXT, c INT)", "CREATE TABLE u (a INT, b TEXT NOT NULL, c INT)", "CREATE INDEX i ON u (a)", "CREATE MATERIALIZED VIEW v AS " + w.view(), "CREATE MATERIALIZED VIEW w AS " + w.view()}
		for i := range 250 {
			s := w.statement()
			if i < len(start) {
				s = start[i]
			}
			a, errno := e.Exec(s)
			b, want := m.exec(s)
			met[errno]++
			if errno != want || !sameAnswer(a, b) {
				t.Fatalf("%d: %s: %d %v, not %d %v", seed, s, errno, a, want, b)
			}
			as(t, s, e, m)
			if _, _, cached := e.Pages(); cached > cache {
				t.Fatal("cached", cached)
			}
			if i%40 == 39 {
				if m.busy() {
					m.state, m.begin = *m.begin, nil
				}
				e = open(t, d, cache)
				as(t, "opened", e, m)
			}
		}
	}
	for _, errno := range []api.Errno{api.OK, api.ErrName, api.ErrType, api.ErrExists, api.ErrNone, api.ErrUnique, api.ErrNull, api.ErrState, api.ErrOver, api.ErrLarge} {
		if met[errno] < 3 {
			t.Error("too few statements of each kind:", met)
			break
		}
	}
}

func TestTextOfAView(t *testing.T) {
	e := newEngine(t)
	run(t, e, "CREATE TABLE t (a INT, b TEXT)")
	// The view's text is what stands behind AS.
	query := "SELECT a"
	for i := range 7 {
		query += ", '" + x(100) + "' AS k" + strconv.Itoa(i)
	}
	query += " FROM t WHERE b <> '" + x(99) + "' AND b <> '"
	for size := 998; size <= 1002; size++ {
		s := query + x(size-len(query)-1) + "'"
		if len(s) != size {
			t.Fatal(len(s))
		}
		want := api.OK
		if size > 1000 {
			want = api.ErrLarge
		}
		_, errno := e.Exec("CREATE MATERIALIZED VIEW v AS " + s)
		check(t, strconv.Itoa(size), errno, want)
		if want == api.OK {
			if o := e.Objects()[1]; o.Text != s {
				t.Error(o.Text)
			}
			run(t, e, "DROP VIEW v")
		}
	}
}

func TestUniqueColumns(t *testing.T) {
	d := disk.New(1 << 20)
	e := open(t, d, 10)
	run(t, e, "CREATE TABLE t (a INT, b INT UNIQUE, c INT, d INT UNIQUE)", "INSERT INTO t VALUES (1, 1, 1, 1), (1, 2, 1, 2), (1, NULL, 1, NULL), (1, NULL, 1, NULL)")
	for range 2 {
		for _, s := range []string{"INSERT INTO t VALUES (2, 1, 2, 9)", "INSERT INTO t VALUES (2, 9, 2, 2)", "UPDATE t SET d = 1 WHERE b = 2", "UPDATE t SET b = d"} {
			_, errno := e.Exec(s)
			want := api.ErrUnique
			if s == "UPDATE t SET b = d" {
				want = api.OK
			}
			check(t, s, errno, want)
		}
		e = open(t, d, 10)
	}
}

func TestFullTableIsOpened(t *testing.T) {
	d := disk.New(1 << 20)
	e := open(t, d, 10)
	run(t, e, "CREATE TABLE t (a INT UNIQUE)", "CREATE MATERIALIZED VIEW v AS SELECT a FROM t")
	for i := range api.MaxRows {
		run(t, e, "INSERT INTO t VALUES ("+strconv.Itoa(i)+")")
	}
	_, errno := e.Exec("INSERT INTO t VALUES (99)")
	check(t, "one row more", errno, api.ErrFull)
	run(t, e, "UPDATE t SET a = a + 1")
	if a := run(t, open(t, d, 10), "SELECT COUNT(*), SUM(a) FROM v"); shown(a.Rows) != "30 465" {
		t.Error(shown(a.Rows))
	}
}

// An entry's value may make it too large, though its key isn't.
func TestLargeValue(t *testing.T) {
	e := newEngine(t)
	run(t, e, "CREATE TABLE t (a TEXT, b INT)")
	sums := "SUM(b) AS s1, SUM(b - 1) AS s2, SUM(b - 2) AS s3, SUM(b - 3) AS s4, SUM(b - 4) AS s5, SUM(b - 5) AS s6"
	run(t, e, "CREATE MATERIALIZED VIEW v AS SELECT a, "+sums+" FROM t GROUP BY a", "INSERT INTO t VALUES ('"+x(100)+"', 5)", "INSERT INTO t VALUES ('x', 9223372036854775807)")
	_, errno := e.Exec("INSERT INTO t VALUES ('" + x(100) + "', 9000000000000000000)")
	check(t, "insert", errno, api.ErrLarge)
	_, errno = e.Exec("UPDATE t SET b = 9000000000000000000")
	check(t, "update", errno, api.ErrLarge)
	run(t, e, "DROP VIEW v", "UPDATE t SET b = 9000000000000000000")
	_, errno = e.Exec("CREATE MATERIALIZED VIEW v AS SELECT a, " + sums + " FROM t GROUP BY a")
	check(t, "create", errno, api.ErrLarge)
	noPageIsLost(t, "behind errors", e)
}

func TestCombinationsOfViews(t *testing.T) {
	e := newEngine(t)
	run(t, e, "CREATE TABLE t (a INT)", "CREATE TABLE u (b INT)", "CREATE TABLE none (c INT)", "CREATE TABLE one (d INT)", "INSERT INTO one VALUES (1)", "CREATE MATERIALIZED VIEW v AS SELECT a, b FROM t JOIN u ON 1 = 1")
	for i := range 10 {
		run(t, e, "INSERT INTO t VALUES ("+strconv.Itoa(i)+")", "INSERT INTO u VALUES ("+strconv.Itoa(i)+")")
	}
	three := func(name string) string {
		return "SELECT COUNT(*) FROM v AS x JOIN v AS y ON 1 = 2 JOIN " + name + " ON 1 = 2"
	}
	run(t, e, three("t"), three("one"), three("none"))
	run(t, e, "INSERT INTO one VALUES (2), (3), (4), (5), (6), (7), (8), (9), (10)", three("one"), "INSERT INTO one VALUES (11)")
	_, errno := e.Exec(three("one"))
	check(t, "110000 combinations", errno, api.ErrLarge)
	run(t, e, three("none"))
	_, errno = e.Exec("SELECT COUNT(*) FROM v AS x JOIN v AS y ON 1 = 2 JOIN v AS z ON 1 = 2")
	check(t, "1000000 combinations", errno, api.ErrLarge)
	run(t, e, "DELETE FROM one WHERE d > 1")
	for i := range 20 {
		run(t, e, "INSERT INTO t VALUES ("+strconv.Itoa(i)+")", "INSERT INTO u VALUES ("+strconv.Itoa(i)+")")
	}
	_, errno = e.Exec(three("one"))
	check(t, "810000 combinations", errno, api.ErrLarge)
}

// crafted is a disk whose pages an engine wrote, but for a change.
func crafted(t *testing.T, change func(e *Engine)) *disk.Disk {
	t.Helper()
	d := disk.New(1 << 20)
	e := open(t, d, 10)
	run(t, e, "CREATE TABLE t (a INT UNIQUE, b TEXT)", "INSERT INTO t VALUES (1, 'x'), (2, 'y')", "CREATE INDEX i ON t (b)", "CREATE MATERIALIZED VIEW v AS SELECT b, COUNT(*) AS n, SUM(a) AS s FROM t GROUP BY b", "CREATE TABLE u (b TEXT)", "CREATE UNIQUE INDEX j ON u (b)")
	change(e)
	check(t, "commit", e.p.Commit(), api.OK)
	return d
}

// rewrite lets an object be another one in the engine's own tree.
func rewrite(t *testing.T, e *Engine, name string, change func(o *catalog.Object)) {
	t.Helper()
	o, _ := e.catalog.Find(name)
	old, _ := catalog.Encode(o)
	change(&o)
	pieces, errno := catalog.Encode(o)
	check(t, "encode", errno, api.OK)
	for i := range old {
		key, _ := pieceKey(e.numbers[name], i)
		check(t, "delete", e.deleteOwn(key), api.OK)
	}
	for i, piece := range pieces {
		key, _ := pieceKey(e.numbers[name], i)
		check(t, "put", e.putOwn(key, piece), api.OK)
	}
}

// What lies in the pages may be trees, and yet not what an engine leaves.
func TestOpenCrafted(t *testing.T) {
	open(t, crafted(t, func(e *Engine) {}), 4)
	open(t, crafted(t, func(e *Engine) { rewrite(t, e, "v", func(o *catalog.Object) {}) }), 4)
	moved := func(e *Engine, root int) {
		key, value, _, _ := tree.Last(e.p, root)
		tree.Delete(e.p, root, key)
		key[len(key)-1] += 7
		check(t, "put", tree.Put(e.p, root, key, value), api.OK)
	}
	first := func(e *Engine, root int, change func(value []byte) []byte) {
		key, value, _, _ := tree.Next(e.p, root, nil, true)
		check(t, "put", tree.Put(e.p, root, key, change(value)), api.OK)
	}
	root := func(e *Engine, name string) int {
		o, _ := e.catalog.Find(name)
		return o.Root
	}
	own := func(e *Engine, value string, key ...api.Value) {
		k, errno := keys.Key(key)
		check(t, "key", errno, api.OK)
		check(t, "put", e.putOwn(k, []byte(value)), api.OK)
	}
	word := func(s string) api.Value { return api.Value{Kind: api.Text, S: s} }
	for i, change := range []func(e *Engine){
		func(e *Engine) { moved(e, root(e, "i")) }, func(e *Engine) { moved(e, e.unnamed[place{"t", 0}]) }, func(e *Engine) { moved(e, root(e, "v")) },
		func(e *Engine) {
			table, _ := e.table("t")
			table.Indexes[0].Unique = false
			_, errno := rows.Insert(e.p, table, []api.Value{number(2), word("y")})
			check(t, "insert", errno, api.OK)
		},
		func(e *Engine) {
			table, _ := e.table("u")
			table.Columns[0].Kind = api.Int
			_, errno := rows.Insert(e.p, table, []api.Value{number(2)})
			check(t, "insert", errno, api.OK)
		},
		func(e *Engine) {
			table, _ := e.table("u")
			for i := range api.MaxRows {
				_, errno := rows.Insert(e.p, table, []api.Value{word(strconv.Itoa(i))})
				check(t, "insert", errno, api.OK)
			}
			check(t, "put", tree.Put(e.p, table.Root, []byte("\x10\x80\x00\x00\x00\x00\x00\x00\x50"), []byte("\x01\x02\x01z")), api.OK)
			check(t, "put", tree.Put(e.p, table.Indexes[0].Root, []byte("\x20z\x00\x00\x10\x80\x00\x00\x00\x00\x00\x00\x50"), nil), api.OK)
		},
		func(e *Engine) { first(e, root(e, "v"), func(b []byte) []byte { b[0]++; return b }) }, func(e *Engine) { first(e, root(e, "v"), func(b []byte) []byte { b[len(b)-1] += 2; return b }) }, func(e *Engine) { first(e, root(e, "v"), func(b []byte) []byte { return b[:len(b)-1] }) }, func(e *Engine) { first(e, root(e, "v"), func(b []byte) []byte { return nil }) }, func(e *Engine) { first(e, root(e, "v"), func(b []byte) []byte { return append(b, 1) }) }, func(e *Engine) { first(e, root(e, "v"), func(b []byte) []byte { return append(b, 1, 2) }) },
		func(e *Engine) {
			check(t, "put", tree.Put(e.p, root(e, "v"), []byte("junk"), []byte{1, 1, 1, 1, 1}), api.OK)
		},
		func(e *Engine) { rewrite(t, e, "v", func(o *catalog.Object) { o.Text = "BEGIN" }) }, func(e *Engine) { rewrite(t, e, "v", func(o *catalog.Object) { o.Text = "nonsense" }) }, func(e *Engine) { rewrite(t, e, "v", func(o *catalog.Object) { o.Text = "SELECT zzz FROM t" }) }, func(e *Engine) { rewrite(t, e, "v", func(o *catalog.Object) { o.Text = "SELECT DISTINCT b FROM t" }) }, func(e *Engine) { rewrite(t, e, "v", func(o *catalog.Object) { o.Columns[1].Name = "zzz" }) }, func(e *Engine) { rewrite(t, e, "v", func(o *catalog.Object) { o.Columns[1].Kind = 2 }) }, func(e *Engine) { rewrite(t, e, "v", func(o *catalog.Object) { o.Uses = []string{"u"} }) }, func(e *Engine) { rewrite(t, e, "v", func(o *catalog.Object) { o.Uses = []string{"t", "u"} }) }, func(e *Engine) {
			rewrite(t, e, "v", func(o *catalog.Object) { o.Text = strings.ReplaceAll(o.Text, "SUM(a)", "SUM(a + 1)") })
		},
		func(e *Engine) { rewrite(t, e, "t", func(o *catalog.Object) { o.Columns[0].Unique = false }) }, func(e *Engine) { rewrite(t, e, "t", func(o *catalog.Object) { o.Columns[1].Unique = true }) }, func(e *Engine) { rewrite(t, e, "t", func(o *catalog.Object) { o.Columns[1].Kind = api.Int }) }, func(e *Engine) { rewrite(t, e, "t", func(o *catalog.Object) { o.Name = "w" }) }, func(e *Engine) { rewrite(t, e, "u", func(o *catalog.Object) { o.Name = "t" }) }, func(e *Engine) { rewrite(t, e, "i", func(o *catalog.Object) { o.Keys[0] = 0 }) }, func(e *Engine) { rewrite(t, e, "i", func(o *catalog.Object) { o.On = "zzz" }) }, func(e *Engine) { rewrite(t, e, "i", func(o *catalog.Object) { o.Root = root(e, "j") }) }, func(e *Engine) { rewrite(t, e, "u", func(o *catalog.Object) { o.Root = 9999 }) },
		func(e *Engine) { own(e, "junk", number(99), number(0)) }, func(e *Engine) { own(e, "junk", number(1), number(1)) }, func(e *Engine) { own(e, "junk", number(1), number(7)) }, func(e *Engine) { own(e, "junk", number(1), number(-1)) }, func(e *Engine) { own(e, "junk", number(0), number(0)) }, func(e *Engine) { own(e, "", number(99), number(0)) }, func(e *Engine) { own(e, "junk", number(1)) }, func(e *Engine) { own(e, "junk", number(1), word("a")) }, func(e *Engine) { own(e, "junk", number(1), number(0), number(0)) }, func(e *Engine) { own(e, "junk", api.Value{}, number(0)) },
		func(e *Engine) { own(e, "\x01", word("t"), number(1)) }, func(e *Engine) { own(e, "\x00", word("t"), number(0)) }, func(e *Engine) { own(e, "", word("t"), number(0)) }, func(e *Engine) { own(e, "\x80", word("t"), number(0)) }, func(e *Engine) { own(e, "\xce\x10", word("t"), number(0)) }, func(e *Engine) { own(e, "\x01\x00", word("t"), number(0)) }, func(e *Engine) { own(e, "\x01", word("zzz"), number(0)) }, func(e *Engine) { own(e, "\x01", word("t"), word("a")) }, func(e *Engine) { own(e, "\x01", word("t"), number(-1)) }, func(e *Engine) { own(e, "\x01", word("t"), number(8)) },
	} {
		if e, errno := Open(crafted(t, change), 10); e != nil || errno != api.ErrBad {
			t.Error(i, errno)
		}
	}
}

// Without an object all may be gone but the engine's own tree.
func TestOpenEmptied(t *testing.T) {
	d := disk.New(1 << 20)
	e := open(t, d, 10)
	run(t, e, "CREATE TABLE t (a INT UNIQUE, b TEXT UNIQUE)", "CREATE INDEX i ON t (b)", "INSERT INTO t VALUES (1, 'x')", "DROP TABLE t")
	noPageIsLost(t, "emptied", e)
	e = open(t, d, 10)
	noPageIsLost(t, "opened", e)
	if reached, errno := e.Reach(); len(reached) != 1 || len(e.Objects()) != 0 || errno != api.OK {
		t.Error(reached, e.Objects(), errno)
	}
	run(t, e, "CREATE TABLE t (a INT UNIQUE)")
}
