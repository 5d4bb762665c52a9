package rows

import (
	"math"
	"math/rand"
	"slices"
	"strconv"
	"strings"
	"testing"

	"wainscot/api"
	"wainscot/disk"
	"wainscot/keys"
	"wainscot/pager"
	"wainscot/tree"
)

func check(t *testing.T, what string, got, want api.Errno) {
	t.Helper()
	if got != want {
		t.Fatalf("%s: %d, not %d", what, got, want)
	}
}

func num(n int64) api.Value { return api.Value{Kind: api.Int, N: n} }

func text(s string) api.Value { return api.Value{Kind: api.Text, S: s} }

func row(l ...api.Value) []api.Value { return l }

// word reads a value: N is NULL, a number, or else a text.
func word(s string) api.Value {
	if n, e := strconv.ParseInt(s, 10, 64); e == nil {
		return num(n)
	}
	if s == "N" {
		return api.Value{}
	}
	return text(s)
}

func of(s string) []api.Value {
	var l []api.Value
	for _, w := range strings.Fields(s) {
		l = append(l, word(w))
	}
	return l
}

// newTable makes a table of a, an INT, and b and c, TEXTs, with empty indexes on these columns.
func newTable(t *testing.T, indexes ...Index) (*pager.Pager, Table) {
	t.Helper()
	p, e := pager.Open(disk.New(1<<20), 20)
	check(t, "open", e, api.OK)
	table := Table{Columns: []api.Column{{Name: "a", Kind: api.Int}, {Name: "b", Kind: api.Text}, {Name: "c", Kind: api.Text, NotNull: true}}}
	table.Root, e = tree.Create(p)
	check(t, "create", e, api.OK)
	for _, x := range indexes {
		x.Root, e = tree.Create(p)
		check(t, "create", e, api.OK)
		table.Indexes = append(table.Indexes, x)
	}
	return p, table
}

func shown(l []Row) string {
	var s []string
	for _, r := range l {
		words := []string{strconv.FormatInt(r.ID, 10) + ":"}
		for _, v := range r.Values {
			switch v.Kind {
			case api.Null:
				words = append(words, "N")
			case api.Int:
				words = append(words, strconv.FormatInt(v.N, 10))
			default:
				words = append(words, v.S)
			}
		}
		s = append(s, strings.Join(words, " "))
	}
	return strings.Join(s, "; ")
}

// lies asks whether a table has just these rows, and its indexes just their entries.
func lies(t *testing.T, p *pager.Pager, table Table, want string) {
	t.Helper()
	l, e := All(p, table)
	check(t, "all", e, api.OK)
	if shown(l) != want {
		t.Fatalf("%s, not %s", shown(l), want)
	}
	for i, x := range table.Indexes {
		var want []string
		for _, r := range l {
			var values []api.Value
			for _, k := range x.Keys {
				values = append(values, r.Values[k])
			}
			key, _ := keys.Key(append(values, num(r.ID)))
			want = append(want, string(key))
		}
		slices.Sort(want)
		var got []string
		key, value, ok, e := tree.Next(p, x.Root, nil, true)
		for ; ok; key, value, ok, e = tree.Next(p, x.Root, key, false) {
			got = append(got, string(key))
			if len(value) > 0 {
				t.Fatal("an entry has a value")
			}
		}
		check(t, "next", e, api.OK)
		if !slices.Equal(got, want) {
			t.Fatalf("index %d: %q, not %q", i, got, want)
		}
	}
}

func insert(t *testing.T, p *pager.Pager, table Table, s string) int64 {
	t.Helper()
	id, e := Insert(p, table, of(s))
	check(t, "insert "+s, e, api.OK)
	return id
}

func TestCheck(t *testing.T) {
	x := func(n int) string { return strings.Repeat("x", n) }
	table := Table{Columns: []api.Column{{Name: "a", Kind: api.Int}, {Name: "b", Kind: api.Text}, {Name: "c", Kind: api.Text, NotNull: true}}}
	indexed := table
	indexed.Indexes = []Index{{Root: 1, Keys: []int{0}}, {Root: 1, Keys: []int{1, 0}}}
	for i, c := range []struct {
		t   Table
		row []api.Value
		e   api.Errno
	}{
		{table, of("1 x y"), api.OK}, {table, of("N N y"), api.OK}, {Table{}, nil, api.OK},
		{table, nil, api.ErrType}, {table, of("1 x"), api.ErrType}, {table, of("1 x y z"), api.ErrType}, {table, of("x x y"), api.ErrType}, {table, of("1 1 y"), api.ErrType}, {table, of("x x N"), api.ErrType}, {table, row(num(1), text("x"), api.Value{Kind: 3}), api.ErrType}, {table, row(api.Value{N: 1}, text("x"), text("y")), api.ErrType}, {table, row(num(1), text(x(101)), text("y")), api.ErrType},
		{table, of("1 x N"), api.ErrNull}, {table, row(api.Value{}, text(x(100)), api.Value{}), api.ErrNull},
		{table, row(num(1), text(x(100)), text(x(33))), api.OK}, {table, row(num(1), text(x(100)), text(x(34))), api.ErrLarge},
		{indexed, row(num(1), text(x(99)), text("y")), api.OK}, {indexed, row(num(1), text(x(100)), text("y")), api.ErrLarge}, {indexed, row(api.Value{}, text(x(100)), text("y")), api.OK}, {indexed, row(num(1), text(strings.Repeat("\x00", 49)), text("y")), api.OK}, {indexed, row(num(1), text(strings.Repeat("\x00", 50)), text("y")), api.ErrLarge}, {indexed, row(num(1), text(x(100)), api.Value{}), api.ErrNull},
	} {
		if e := Check(c.t, c.row); e != c.e {
			t.Error(i, e)
		}
	}
	for _, k := range []int{-1, 3, math.MaxInt} {
		bad := table
		bad.Indexes = []Index{{Keys: []int{k}}}
		check(t, "no such column", Check(bad, of("1 x y")), api.ErrArg)
	}
}

func TestInsert(t *testing.T) {
	p, table := newTable(t, Index{Keys: []int{1}}, Index{Keys: []int{2, 0}, Unique: true})
	lies(t, p, table, "")
	for i, s := range []string{"1 x y", "N x y", "N x y", "2 N z"} {
		if id := insert(t, p, table, s); id != int64(i+1) {
			t.Error(id)
		}
	}
	all := "1: 1 x y; 2: N x y; 3: N x y; 4: 2 N z"
	lies(t, p, table, all)
	for s, want := range map[string]api.Errno{"1 q y": api.ErrUnique, "2 x z": api.ErrUnique, "1 x": api.ErrType, "1 x N": api.ErrNull} {
		if id, e := Insert(p, table, of(s)); id != 0 || e != want {
			t.Error(s, id, e)
		}
		lies(t, p, table, all)
	}
	if ok, e := Delete(p, table, 2); !ok || e != api.OK {
		t.Error(ok, e)
	}
	if id := insert(t, p, table, "1 x z"); id != 5 {
		t.Error("a number between is taken again:", id)
	}
	for _, id := range []int64{4, 5} {
		Delete(p, table, id)
	}
	lies(t, p, table, "1: 1 x y; 3: N x y")
	if id := insert(t, p, table, "2 x z"); id != 4 {
		t.Error(id)
	}
	r := of("7 m n")
	id, e := Insert(p, table, r)
	r[1] = text("changed")
	lies(t, p, table, "1: 1 x y; 3: N x y; 4: 2 x z; 5: 7 m n")
	if id != 5 || e != api.OK {
		t.Error(id, e)
	}
}

func TestExample(t *testing.T) {
	p, table := newTable(t)
	if a := insert(t, p, table, "1 x y"); a != 1 {
		t.Error(a)
	}
	if ok, e := Delete(p, table, 1); !ok || e != api.OK {
		t.Error(ok, e)
	}
	if b := insert(t, p, table, "1 x y"); b != 1 {
		t.Error(b)
	}
}

func TestFull(t *testing.T) {
	p, table := newTable(t, Index{Keys: []int{0}, Unique: true})
	for i := range api.MaxRows {
		insert(t, p, table, strconv.Itoa(i)+" x y")
	}
	for s, want := range map[string]api.Errno{"99 x y": api.ErrFull, "1 x y": api.ErrFull, "99 x N": api.ErrNull} {
		if id, e := Insert(p, table, of(s)); id != 0 || e != want {
			t.Error(s, id, e)
		}
		check(t, "put", Put(p, table, Row{99, of(s)}), want)
	}
	check(t, "put", Put(p, table, Row{7, of("99 x y")}), api.ErrExists)
	Delete(p, table, 7)
	check(t, "put", Put(p, table, Row{1000, of("99 x y")}), api.OK)
	if l, _ := All(p, table); len(l) != api.MaxRows {
		t.Error(len(l))
	}
}

func TestGreatestNumber(t *testing.T) {
	p, table := newTable(t, Index{Keys: []int{0}, Unique: true})
	check(t, "put", Put(p, table, Row{math.MaxInt64 - 1, of("1 x y")}), api.OK)
	if id := insert(t, p, table, "2 x y"); id != math.MaxInt64 {
		t.Error(id)
	}
	for _, s := range []string{"3 x y", "1 x y"} {
		if id, e := Insert(p, table, of(s)); id != 0 || e != api.ErrFull {
			t.Error(id, e)
		}
	}
}

func TestPut(t *testing.T) {
	p, table := newTable(t, Index{Keys: []int{0, 1}, Unique: true})
	check(t, "put", Put(p, table, Row{5, of("1 x y")}), api.OK)
	check(t, "put", Put(p, table, Row{2, of("1 z y")}), api.OK)
	check(t, "put", Put(p, table, Row{7, of("1 N y")}), api.OK)
	check(t, "put", Put(p, table, Row{8, of("1 N y")}), api.OK)
	all := "2: 1 z y; 5: 1 x y; 7: 1 N y; 8: 1 N y"
	for i, c := range []struct {
		r Row
		e api.Errno
	}{
		{Row{0, of("1 x N")}, api.ErrArg}, {Row{-1, of("9 x y")}, api.ErrArg}, {Row{math.MinInt64, nil}, api.ErrArg}, {Row{5, of("1 x N")}, api.ErrNull}, {Row{5, of("x x y")}, api.ErrType}, {Row{5, of("1 x y")}, api.ErrExists}, {Row{5, of("9 x y")}, api.ErrExists}, {Row{6, of("1 x y")}, api.ErrUnique}, {Row{1, of("1 z q")}, api.ErrUnique},
	} {
		if e := Put(p, table, c.r); e != c.e {
			t.Error(i, e)
		}
		lies(t, p, table, all)
	}
}

func TestGetAndDelete(t *testing.T) {
	p, table := newTable(t, Index{Keys: []int{1}})
	insert(t, p, table, "1 x y")
	insert(t, p, table, "2 x z")
	for id, want := range map[int64]string{1: "1: 1 x y", 2: "2: 2 x z"} {
		got, ok, e := Get(p, table, id)
		if shown([]Row{{id, got}}) != want || !ok || e != api.OK {
			t.Error(id, got, ok, e)
		}
	}
	for _, id := range []int64{0, 3, -1, math.MinInt64, math.MaxInt64} {
		if got, ok, e := Get(p, table, id); got != nil || ok || e != api.OK {
			t.Error(id, got, ok, e)
		}
		if ok, e := Delete(p, table, id); ok || e != api.OK {
			t.Error(id, ok, e)
		}
	}
	if ok, e := Delete(p, table, 1); !ok || e != api.OK {
		t.Error(ok, e)
	}
	if ok, e := Delete(p, table, 1); ok || e != api.OK {
		t.Error(ok, e)
	}
	lies(t, p, table, "2: 2 x z")
}

func TestSeek(t *testing.T) {
	p, table := newTable(t, Index{Keys: []int{1, 0}}, Index{Keys: []int{2}, Unique: true})
	for i, s := range []string{"5 x", "1 x", "N x", "5 N", "1 xx", "N N", "5 x"} {
		insert(t, p, table, s+" c"+strconv.Itoa(i))
	}
	for _, c := range []struct {
		index  int
		values []api.Value
		want   []int64
	}{
		{0, of("x"), []int64{1, 2, 3, 7}}, {0, of("x 5"), []int64{1, 7}}, {0, of("x N"), []int64{3}}, {0, of("N"), []int64{4, 6}}, {0, of("N N"), []int64{6}}, {0, of("xx"), []int64{5}}, {0, row(text("")), nil}, {0, of("1"), nil}, {0, of("x x"), nil}, {1, of("c3"), []int64{4}}, {1, of("c"), nil}, {1, of("N"), nil},
	} {
		if got, e := Seek(p, table, c.index, c.values); !slices.Equal(got, c.want) || e != api.OK {
			t.Error(c, got, e)
		}
	}
	for _, c := range []struct {
		index  int
		values []api.Value
	}{{-1, of("x")}, {2, of("x")}, {math.MaxInt, of("x")}, {0, nil}, {0, of("x 5 1")}, {1, of("c1 1")}, {2, row(api.Value{Kind: 3})}, {1, row(api.Value{Kind: 3}, num(1))}} {
		if got, e := Seek(p, table, c.index, c.values); got != nil || e != api.ErrArg {
			t.Error(c, got, e)
		}
	}
}

// Values that aren't formed are those of no row, whatever lies there.
func TestSeekUnformed(t *testing.T) {
	p, table := newTable(t, Index{Keys: []int{1, 0}})
	empty, nothing := newTable(t, Index{Keys: []int{1, 0}})
	for i, s := range []string{"5 x", "N x", "0 x", "N N", "1 N"} {
		insert(t, p, table, s+" c"+strconv.Itoa(i))
	}
	for i, values := range [][]api.Value{
		{{N: 1}}, {{S: "x"}}, {{Kind: api.Int, N: 5, S: "x"}}, {{Kind: api.Text, N: 5, S: "x"}}, {{Kind: 3}}, {{Kind: -1}}, {{Kind: math.MaxInt, S: "x"}}, {{Kind: api.Text, S: strings.Repeat("x", api.MaxText+1)}},
		{text("x"), {N: 1}}, {text("x"), {S: "x"}}, {text("x"), {Kind: api.Int, S: "x"}}, {text("x"), {Kind: 3}}, {{S: "x"}, num(5)}, {{}, {N: 1}}, {{Kind: 3}, {Kind: 3}},
	} {
		for _, at := range []struct {
			p *pager.Pager
			t Table
		}{{p, table}, {empty, nothing}} {
			if got, e := Seek(at.p, at.t, 0, values); len(got) != 0 || e != api.OK {
				t.Error(i, got, e)
			}
		}
	}
}

func TestBuild(t *testing.T) {
	long := strings.Repeat("x", 100)
	for i, c := range []struct {
		rows []string
		x    Index
		e    api.Errno
	}{
		{nil, Index{Keys: []int{0}}, api.OK}, {[]string{"1 x y", "2 x y", "N N y"}, Index{Keys: []int{1, 0}}, api.OK}, {[]string{"1 x y", "2 x y"}, Index{Keys: []int{1, 0}, Unique: true}, api.OK}, {[]string{"1 N y", "1 N y"}, Index{Keys: []int{0, 1}, Unique: true}, api.OK},
		{[]string{"1 x y", "2 x y"}, Index{Keys: []int{1}, Unique: true}, api.ErrUnique}, {[]string{"1 " + long + " y"}, Index{Keys: []int{1, 0}}, api.ErrLarge}, {[]string{"1 x y", "1 x y", "2 " + long + " z"}, Index{Keys: []int{1, 0}, Unique: true}, api.ErrLarge}, {[]string{"1 " + long + " y"}, Index{Keys: []int{1}}, api.OK},
	} {
		p, table := newTable(t)
		for _, s := range c.rows {
			insert(t, p, table, s)
		}
		l, _ := All(p, table)
		var e api.Errno
		c.x.Root, e = tree.Create(p)
		check(t, "create", e, api.OK)
		table.Indexes = []Index{c.x}
		if e := Build(p, table, 0); e != c.e {
			t.Error(i, e)
		}
		if c.e == api.OK {
			lies(t, p, table, shown(l))
		}
		for _, index := range []int{-1, 1, math.MaxInt} {
			check(t, "no such index", Build(p, table, index), api.ErrArg)
		}
	}
}

// errors are what all calls answer; beside them they answer nothing.
func errors(t *testing.T, p *pager.Pager, table Table) []api.Errno {
	t.Helper()
	id, a := Insert(p, table, of("1 x y"))
	gone, b := Delete(p, table, 1)
	values, there, c := Get(p, table, 1)
	list, d := All(p, table)
	numbers, e := Seek(p, table, 0, of("1"))
	none, f := Seek(p, table, 0, row(api.Value{N: 1}))
	if id != 0 || gone || values != nil || there || list != nil || numbers != nil || none != nil {
		t.Error("something beside an error")
	}
	return []api.Errno{a, b, c, d, e, f, Put(p, table, Row{1, of("1 x y")}), Build(p, table, 0)}
}

func TestErrors(t *testing.T) {
	p, table := newTable(t, Index{Keys: []int{0}})
	none := table
	none.Root, none.Indexes = 77, []Index{{Root: 78, Keys: []int{0}}}
	junk, _ := p.Take()
	bad := table
	bad.Root, bad.Indexes = junk, []Index{{Root: junk, Keys: []int{0}}}
	for what, l := range map[string][]api.Errno{"1": errors(t, nil, table), "9": errors(t, p, none), "17": errors(t, p, bad)} {
		for i, e := range l {
			if strconv.Itoa(int(e)) != what {
				t.Error(what, i, e)
			}
		}
	}
	d := disk.New(1 << 20)
	q, _ := pager.Open(d, 4)
	root, _ := tree.Create(q)
	d.SetFuse(0)
	check(t, "commit", q.Commit(), api.ErrDisk)
	for i, e := range errors(t, q, Table{Root: root, Columns: table.Columns, Indexes: []Index{{Root: root, Keys: []int{0}}}}) {
		if e != api.ErrDisk {
			t.Error(i, e)
		}
	}
}

// What lies in a table's tree, or in an index's, may be no row.
func TestBad(t *testing.T) {
	key := func(l ...api.Value) []byte {
		k, _ := keys.Key(l)
		return k
	}
	one := key(num(1))
	for i, c := range []struct {
		key   []byte
		value string
	}{{one, ""}, {one, "junk"}, {key(num(0)), "\x00"}, {key(num(-1)), "\x00"}, {key(text("a")), "\x00"}, {key(num(1), num(2)), "\x00"}, {[]byte("junk"), "\x00"}} {
		p, table := newTable(t)
		check(t, "put", tree.Put(p, table.Root, c.key, []byte(c.value)), api.OK)
		if l, e := All(p, table); l != nil || e != api.ErrBad {
			t.Error(i, l, e)
		}
		if _, e := Insert(p, table, of("1 x y")); e != api.ErrBad {
			t.Error(i, e)
		}
		check(t, "put", Put(p, table, Row{3, of("1 x y")}), api.ErrBad)
		if i < 2 {
			if l, ok, e := Get(p, table, 1); l != nil || ok || e != api.ErrBad {
				t.Error(i, ok, e)
			}
			if ok, e := Delete(p, table, 1); ok || e != api.ErrBad {
				t.Error(i, ok, e)
			}
		}
	}
	for i, k := range [][]byte{key(num(5)), key(num(5), num(0)), key(num(5), text("a")), key(num(5), num(1), num(2)), append(key(num(5)), 1)} {
		p, table := newTable(t, Index{Keys: []int{0}})
		check(t, "put", tree.Put(p, table.Indexes[0].Root, k, nil), api.OK)
		if l, e := Seek(p, table, 0, of("5")); l != nil || e != api.ErrBad {
			t.Error(i, l, e)
		}
	}
	p, table := newTable(t)
	check(t, "put", tree.Put(p, table.Root, one, []byte("\x00")), api.OK)
	root, _ := tree.Create(p)
	table.Indexes = []Index{{Root: root, Keys: []int{0}}}
	check(t, "a row of too few values", Build(p, table, 0), api.ErrBad)
	if ok, e := Delete(p, table, 1); ok || e != api.ErrBad {
		t.Error(ok, e)
	}
	// Where an index doesn't lie, its table's calls end there.
	p, table = newTable(t, Index{Keys: []int{0}, Unique: true})
	insert(t, p, table, "1 x y")
	table.Indexes[0].Root = 999
	if ok, e := Delete(p, table, 1); ok || e != api.ErrNone {
		t.Error(ok, e)
	}
	if id, e := Insert(p, table, of("1 x y")); id != 0 || e != api.ErrNone {
		t.Error(id, e)
	}
}

func TestRandom(t *testing.T) {
	for seed := range 6 {
		r := rand.New(rand.NewSource(int64(seed)))
		p, table := newTable(t, Index{Keys: []int{1}}, Index{Keys: []int{0, 2}, Unique: true}, Index{Keys: []int{2, 1, 0}})
		var have []Row
		for range 150 {
			s := of([]string{"N", "1", "2", "3"}[r.Intn(4)] + " " + []string{"N", "x", "y"}[r.Intn(3)] + " c" + strconv.Itoa(r.Intn(12)))
			twice := slices.ContainsFunc(have, func(o Row) bool {
				return o.Values[0] == s[0] && o.Values[2] == s[2] && s[0].Kind != api.Null
			})
			want := api.OK
			switch {
			case len(have) == api.MaxRows:
				want = api.ErrFull
			case twice:
				want = api.ErrUnique
			}
			switch k := r.Intn(10); {
			case k < 5:
				id, e := Insert(p, table, s)
				check(t, "insert", e, want)
				if e == api.OK {
					have = append(have, Row{id, s})
				}
			case k < 7:
				id := int64(1 + r.Intn(60))
				if slices.ContainsFunc(have, func(o Row) bool { return o.ID == id }) {
					want = api.ErrExists
				}
				check(t, "put", Put(p, table, Row{id, s}), want)
				if want == api.OK {
					have = append(have, Row{id, s})
				}
			default:
				id := int64(1 + r.Intn(60))
				n := len(have)
				have = slices.DeleteFunc(have, func(o Row) bool { return o.ID == id })
				if ok, e := Delete(p, table, id); ok != (len(have) < n) || e != api.OK {
					t.Fatal(ok, e)
				}
			}
			slices.SortFunc(have, func(a, b Row) int { return int(a.ID - b.ID) })
			lies(t, p, table, shown(have))
			var want2 []int64
			for _, o := range have {
				if o.Values[2] == s[2] && o.Values[1] == s[1] {
					want2 = append(want2, o.ID)
				}
			}
			if got, e := Seek(p, table, 2, row(s[2], s[1])); !slices.Equal(got, want2) || e != api.OK {
				t.Fatal(got, want2, e)
			}
		}
	}
}
