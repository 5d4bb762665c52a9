package world

import (
	"math/rand"
	"strconv"
	"strings"
	"testing"

	"wainscot/api"
	"wainscot/engine"
)

func check(t *testing.T, what string, got, want api.Errno) {
	t.Helper()
	if got != want {
		t.Fatalf("%s: %d, not %d", what, got, want)
	}
}

func newWorld(t *testing.T, room, cache int) *World {
	t.Helper()
	w, e := New(room, cache)
	check(t, "new", e, api.OK)
	return w
}

func exec(s string) Op { return Op{Kind: 1, S: s} }

// run does statements, none of which fails.
func run(t *testing.T, w *World, list ...string) engine.Answer {
	t.Helper()
	var a engine.Answer
	for _, s := range list {
		var e api.Errno
		a, e = w.Do(exec(s))
		check(t, s, e, api.OK)
	}
	return a
}

func dump(t *testing.T, w *World) string {
	t.Helper()
	s, e := w.Dump()
	check(t, "dump", e, api.OK)
	return s
}

func base() []string {
	return []string{"CREATE TABLE t (a INT UNIQUE, b TEXT NOT NULL)", "CREATE INDEX i ON t (b, a)", "INSERT INTO t VALUES (1, 'x'), (2, 'y')", "CREATE MATERIALIZED VIEW v AS SELECT b, COUNT(*) AS n, SUM(a) AS s FROM t GROUP BY b"}
}

func TestNew(t *testing.T) {
	for _, cache := range []int{0, 3, 101, -1} {
		if w, e := New(100000, cache); w != nil || e != api.ErrArg {
			t.Error(cache, e)
		}
	}
	for _, room := range []int{0, -5, 1 << 30} {
		if w := newWorld(t, room, 4); w.Engine() == nil || dump(t, w) != "" {
			t.Error(room)
		}
	}
}

func TestExec(t *testing.T) {
	w := newWorld(t, 1<<20, 10)
	if a := run(t, w, base()...); a.N != 0 {
		t.Error(a)
	}
	if a := run(t, w, "INSERT INTO t VALUES (3, 'z'), (4, 'z')"); a.N != 2 {
		t.Error(a)
	}
	if a := run(t, w, "SELECT a FROM t WHERE b = 'z'"); len(a.Rows) != 2 || len(a.Names) != 1 || a.Names[0] != "a" {
		t.Error(a)
	}
	for s, want := range map[string]api.Errno{"nonsense": api.ErrSyntax, "INSERT INTO t VALUES (1, 'x')": api.ErrUnique, "COMMIT": api.ErrState} {
		if a, e := w.Do(exec(s)); e != want || a.N != 0 || a.Names != nil || a.Rows != nil {
			t.Error(s, a, e)
		}
	}
}

func TestKinds(t *testing.T) {
	w := newWorld(t, 1<<20, 10)
	run(t, w, base()...)
	before := dump(t, w)
	for _, kind := range []int{0, 6, -1, 1 << 40} {
		if a, e := w.Do(Op{Kind: kind, S: "DROP VIEW v", Keep: []int{1}}); e != api.ErrArg || a.N != 0 {
			t.Error(kind, e)
		}
	}
	if dump(t, w) != before {
		t.Error("changed")
	}
}

func TestNil(t *testing.T) {
	for _, w := range []*World{nil, {}} {
		_, e := w.Do(exec("BEGIN"))
		check(t, "do", e, api.ErrArg)
		s, e := w.Dump()
		if s != "" || e != api.ErrArg || w.Engine() != nil {
			t.Error(s, e)
		}
	}
}

func TestExample(t *testing.T) {
	for _, keep := range [][]int{nil, {0}, {1}, {7}, {1, 0}, {255, 1, 0}} {
		w := newWorld(t, 1<<20, 4)
		run(t, w, base()...)
		before := dump(t, w)
		_, e := w.Do(Op{Kind: 2, Keep: keep})
		check(t, "crash", e, api.OK)
		if dump(t, w) != before {
			t.Error(keep, dump(t, w))
		}
	}
}

func TestOpenAnew(t *testing.T) {
	for _, op := range []Op{{Kind: 5}, {Kind: 2}, {Kind: 2, Keep: []int{1}}, {Kind: 2, Keep: []int{9, 1, 0}}} {
		w := newWorld(t, 1<<20, 4)
		run(t, w, base()...)
		before, old := dump(t, w), w.Engine()
		run(t, w, "BEGIN", "DELETE FROM t", "CREATE TABLE u (a INT)", "INSERT INTO u VALUES (1), (2)")
		for i := range 12 {
			run(t, w, "INSERT INTO t VALUES ("+strconv.Itoa(i)+", '"+strings.Repeat("x", 90)+"')")
		}
		if dump(t, w) == before || !w.Engine().Busy() {
			t.Error("no transaction")
		}
		_, e := w.Do(op)
		check(t, "opened", e, api.OK)
		if dump(t, w) != before || w.Engine() == old || w.Engine().Busy() {
			t.Error(dump(t, w))
		}
	}
}

func TestRoom(t *testing.T) {
	w := newWorld(t, 0, 10)
	_, e := w.Do(exec(base()[0]))
	check(t, "no room", e, api.ErrFull)
	a, e := w.Do(Op{Kind: 4, N: 1 << 20})
	check(t, "room", e, api.OK)
	if a.N != 0 || a.Rows != nil {
		t.Error(a)
	}
	run(t, w, base()...)
	before := dump(t, w)
	w.Do(Op{Kind: 4, N: 10})
	_, e = w.Do(exec("INSERT INTO t VALUES (3, 'z')"))
	check(t, "no room", e, api.ErrFull)
	if dump(t, w) != before {
		t.Error("changed")
	}
	_, e = w.Do(Op{Kind: 5})
	check(t, "opened without room", e, api.OK)
	_, e = w.Do(Op{Kind: 2})
	check(t, "crashed without room", e, api.OK)
	if dump(t, w) != before {
		t.Error("changed")
	}
}

func TestFuse(t *testing.T) {
	w := newWorld(t, 1<<20, 10)
	run(t, w, base()...)
	before := dump(t, w)
	_, e := w.Do(Op{Kind: 3, N: 0})
	check(t, "fuse", e, api.OK)
	_, e = w.Do(exec("INSERT INTO t VALUES (3, 'z')"))
	check(t, "the power goes", e, api.ErrDisk)
	if s, e := w.Dump(); s != "" || e != api.ErrDisk {
		t.Error(s, e)
	}
	if w.Engine() == nil {
		t.Error("an engine that is over is one")
	}
	_, e = w.Do(Op{Kind: 5})
	check(t, "opened without power", e, api.ErrDisk)
	if s, e := w.Dump(); s != "" || e != api.ErrDisk || w.Engine() != nil {
		t.Error(s, e)
	}
	_, e = w.Do(exec("SELECT a FROM t"))
	check(t, "no engine", e, api.ErrDisk)
	_, e = w.Do(Op{Kind: 9})
	check(t, "no kind", e, api.ErrArg)
	for _, op := range []Op{{Kind: 3, N: -1}, {Kind: 4, N: 1 << 20}} {
		_, e = w.Do(op)
		check(t, "without an engine", e, api.OK)
	}
	_, e = w.Do(Op{Kind: 2})
	check(t, "crash", e, api.OK)
	if dump(t, w) != before {
		t.Error(dump(t, w))
	}
	w.Do(Op{Kind: 3, N: 0})
	w.Do(Op{Kind: 3, N: -1})
	run(t, w, "INSERT INTO t VALUES (3, 'z')")
}

// What isn't the same isn't dumped the same.
func TestDump(t *testing.T) {
	seen := map[string]string{}
	for _, script := range []string{
		"", "CREATE TABLE t (a INT)", "CREATE TABLE u (a INT)", "CREATE TABLE t (b INT)", "CREATE TABLE t (a TEXT)", "CREATE TABLE t (a INT NOT NULL)", "CREATE TABLE t (a INT UNIQUE)", "CREATE TABLE t (a INT, b INT)",
		"CREATE TABLE t (a INT); CREATE TABLE u (a INT)", "CREATE TABLE u (a INT); CREATE TABLE t (a INT)", "CREATE TABLE t (a INT); INSERT INTO t VALUES (1)", "CREATE TABLE t (a INT); INSERT INTO t VALUES (2)", "CREATE TABLE t (a INT); INSERT INTO t VALUES (NULL)", "CREATE TABLE t (a INT); INSERT INTO t VALUES (1), (1)", "CREATE TABLE t (a INT); INSERT INTO t VALUES (2), (1); DELETE FROM t WHERE a = 2",
		"CREATE TABLE t (a TEXT); INSERT INTO t VALUES ('1')", "CREATE TABLE t (a TEXT); INSERT INTO t VALUES ('NULL')", "CREATE TABLE t (a TEXT); INSERT INTO t VALUES (NULL)", "CREATE TABLE t (a TEXT); INSERT INTO t VALUES ('1\", \"2')", "CREATE TABLE t (a TEXT); INSERT INTO t VALUES ('\n')", "CREATE TABLE t (a TEXT); INSERT INTO t VALUES ('\\n')", "CREATE TABLE t (a TEXT); INSERT INTO t VALUES ('\xff')", "CREATE TABLE t (a TEXT); INSERT INTO t VALUES ('\ufffd')",
		"CREATE TABLE t (a INT, b INT); CREATE INDEX i ON t (a)", "CREATE TABLE t (a INT, b INT); CREATE INDEX i ON t (b)", "CREATE TABLE t (a INT, b INT); CREATE INDEX j ON t (a)", "CREATE TABLE t (a INT, b INT); CREATE UNIQUE INDEX i ON t (a)", "CREATE TABLE t (a INT, b INT); CREATE INDEX i ON t (a, b)", "CREATE TABLE t (a INT, b INT); CREATE INDEX i ON t (b, a)",
		"CREATE TABLE t (a INT); CREATE MATERIALIZED VIEW v AS SELECT a FROM t", "CREATE TABLE t (a INT); CREATE MATERIALIZED VIEW v AS SELECT a FROM t WHERE a = 1", "CREATE TABLE t (a INT); CREATE MATERIALIZED VIEW v AS SELECT a AS b FROM t", "CREATE TABLE t (a INT); CREATE MATERIALIZED VIEW w AS SELECT a FROM t", "CREATE TABLE t (a INT); INSERT INTO t VALUES (1), (1); CREATE MATERIALIZED VIEW v AS SELECT a FROM t", "CREATE TABLE t (a INT); INSERT INTO t VALUES (1), (1); CREATE MATERIALIZED VIEW v AS SELECT a, COUNT(*) AS n FROM t GROUP BY a",
	} {
		w := newWorld(t, 1<<20, 10)
		for _, s := range strings.Split(script, "; ") {
			if s != "" {
				run(t, w, s)
			}
		}
		s := dump(t, w)
		if other, twice := seen[s]; twice {
			t.Errorf("%q and %q: %s", script, other, s)
		}
		seen[s] = script
		// However it came to be, it is dumped the same.
		again := newWorld(t, 1<<22, 4)
		run(t, again, "CREATE TABLE zzz (a INT)", "INSERT INTO zzz VALUES (1)", "BEGIN", "DROP TABLE zzz", "COMMIT")
		for _, s := range strings.Split(script, "; ") {
			if s != "" {
				run(t, again, "BEGIN", s, "ROLLBACK", s)
			}
		}
		if got := dump(t, again); got != s {
			t.Errorf("%q: %s, not %s", script, got, s)
		}
	}
}

// story is a world, and the statements that are committed in it, or are in its transaction.
type story struct {
	t          *testing.T
	r          *rand.Rand
	w          *World
	committed  []string
	open       []string
	within     string
	transacted bool
}

// told is what a new world has when these statements were done.
func told(t *testing.T, list []string) string {
	t.Helper()
	w := newWorld(t, 1<<22, 50)
	run(t, w, list...)
	return dump(t, w)
}

func (y *story) pick(l ...string) string { return l[y.r.Intn(len(l))] }

func (y *story) number() string { return strconv.Itoa(y.r.Intn(30)) }

func (y *story) statement() string {
	switch k := y.r.Intn(20); {
	case k < 9:
		return "INSERT INTO " + y.pick("t", "u") + " VALUES (" + y.number() + ", '" + strings.Repeat(y.pick("x", "y", "z"), y.r.Intn(80)) + "'), (" + y.number() + ", 'k')"
	case k < 12:
		return "UPDATE " + y.pick("t", "u") + " SET " + y.pick("a = a + 1", "b = 'q'", "a = a * 2") + y.pick("", " WHERE a > "+y.number())
	case k < 14:
		return "DELETE FROM " + y.pick("t", "u") + " WHERE a " + y.pick("<", ">", "=") + " " + y.number()
	case k < 15:
		return y.pick("DROP TABLE u", "DROP VIEW v", "DROP INDEX i", "DROP TABLE t")
	case k < 18:
		return y.pick("CREATE TABLE t (a INT, b TEXT)", "CREATE TABLE u (a INT UNIQUE, b TEXT)", "CREATE INDEX i ON t (b)", "CREATE MATERIALIZED VIEW v AS SELECT b, COUNT(*) AS n, SUM(a) AS s FROM t GROUP BY b", "CREATE MATERIALIZED VIEW w AS SELECT t.b AS p, u.b AS q FROM t JOIN u ON t.a = u.a")
	case k < 19 && !y.transacted:
		return "BEGIN"
	}
	if y.transacted {
		return y.pick("COMMIT", "ROLLBACK", "COMMIT")
	}
	return "SELECT * FROM t"
}

// step does a statement, and tells whether the power went.
func (y *story) step() bool {
	s := y.statement()
	_, e := y.w.Do(exec(s))
	switch {
	case e == api.ErrDisk:
		if !y.transacted || s == "COMMIT" {
			y.within = s
		}
		return true
	case e != api.OK || strings.HasPrefix(s, "SELECT"):
	case s == "BEGIN":
		y.transacted = true
	case s == "COMMIT":
		y.committed, y.open, y.transacted = append(y.committed, y.open...), nil, false
	case s == "ROLLBACK":
		y.open, y.transacted = nil, false
	case y.transacted:
		y.open = append(y.open, s)
	default:
		y.committed = append(y.committed, s)
	}
	return false
}

// reopen lets crashes fall into the opening, too, and asks what is there then.
func (y *story) reopen() {
	keeps := func() []int {
		l := make([]int, 1+y.r.Intn(5))
		for i := range l {
			l[i] = []int{0, 1, 0, 1, y.r.Intn(256)}[y.r.Intn(5)]
		}
		return l
	}
	for range 3 {
		y.w.d.Crash(keeps())
		y.w.Do(Op{Kind: 3, N: y.r.Intn(8)})
		if _, e := y.w.Do(Op{Kind: 5}); e == api.OK {
			break
		}
	}
	_, e := y.w.Do(Op{Kind: 2, Keep: keeps()})
	check(y.t, "crash", e, api.OK)
	got := dump(y.t, y.w)
	if got != told(y.t, y.committed) {
		if y.within == "" {
			y.t.Fatal("not what was committed:", got)
		}
		more := append(y.committed, y.open...)
		if y.within != "COMMIT" {
			more = append(y.committed, y.within)
		}
		if got != told(y.t, more) {
			y.t.Fatal("neither what was committed, nor what was to be:", got)
		}
		y.committed = more
	}
	y.open, y.transacted, y.within = nil, false, ""
	_, e = y.w.Do(Op{Kind: 5})
	check(y.t, "opened twice", e, api.OK)
	if dump(y.t, y.w) != got {
		y.t.Fatal("opened twice, it is something else")
	}
}

func TestCrashes(t *testing.T) {
	for seed := range 30 {
		y := &story{t: t, r: rand.New(rand.NewSource(int64(seed))), w: newWorld(t, 1<<22, 4+seed%3*3)}
		for _, s := range []string{"CREATE TABLE t (a INT, b TEXT)", "CREATE TABLE u (a INT UNIQUE, b TEXT)", "CREATE MATERIALIZED VIEW v AS SELECT b, COUNT(*) AS n, SUM(a) AS s FROM t GROUP BY b"} {
			run(t, y.w, s)
			y.committed = append(y.committed, s)
		}
		for range 6 {
			if y.r.Intn(4) > 0 {
				y.w.Do(Op{Kind: 3, N: y.r.Intn(250)})
			}
			for range 1 + y.r.Intn(40) {
				if y.step() {
					break
				}
			}
			y.reopen()
		}
	}
}

// Each change of one commit is the last one once.
func TestCrashInEachChange(t *testing.T) {
	s := "UPDATE t SET a = a + 10, b = 'changed'"
	old, now := told(t, base()), told(t, append(base(), s))
	for _, keep := range [][]int{nil, {1}, {7}, {0, 1}, {1, 0, 1}} {
		for fuse := 0; ; fuse++ {
			w := newWorld(t, 1<<20, 4)
			run(t, w, base()...)
			w.Do(Op{Kind: 3, N: fuse})
			_, e := w.Do(exec(s))
			_, errno := w.Do(Op{Kind: 2, Keep: keep})
			check(t, "crash", errno, api.OK)
			got := dump(t, w)
			if e == api.OK {
				if got != now || fuse < 5 {
					t.Fatal(fuse, got)
				}
				break
			}
			check(t, s, e, api.ErrDisk)
			if got != old && got != now {
				t.Fatal(fuse, got)
			}
		}
	}
}
