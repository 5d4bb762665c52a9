package bag

import (
	"math"
	"math/rand"
	"slices"
	"testing"

	"wainscot/api"
	"wainscot/value"
)

func num(n int64) api.Value { return api.Value{Kind: api.Int, N: n} }

func text(s string) api.Value { return api.Value{Kind: api.Text, S: s} }

func row(l ...api.Value) []api.Value { return l }

func check(t *testing.T, what string, got, want api.Errno) {
	t.Helper()
	if got != want {
		t.Errorf("%s: %d, not %d", what, got, want)
	}
}

// has asks whether a bag has just these entries, which are in order.
func has(t *testing.T, what string, b *Bag, want ...Entry) {
	t.Helper()
	got := b.Entries()
	if !slices.EqualFunc(got, want, func(x, y Entry) bool { return value.Rows(x.Row, y.Row) == 0 && x.N == y.N }) {
		t.Errorf("%s: %v", what, got)
	}
	if b.Len() != len(want) {
		t.Errorf("%s: %d rows", what, b.Len())
	}
	for _, e := range want {
		if b.Count(e.Row) != e.N {
			t.Errorf("%s: %d times %v", what, b.Count(e.Row), e.Row)
		}
	}
}

func TestAdd(t *testing.T) {
	for _, b := range []*Bag{New(), {}} {
		has(t, "new", b)
		a, c := row(num(1), text("a")), row(num(1))
		check(t, "add", b.Add(a, 2), api.OK)
		check(t, "add", b.Add(c, -3), api.OK)
		check(t, "add", b.Add(nil, 1), api.OK)
		check(t, "add", b.Add(row(api.Value{}), 1), api.OK)
		has(t, "four rows", b, Entry{nil, 1}, Entry{row(api.Value{}), 1}, Entry{c, -3}, Entry{a, 2})
		check(t, "add", b.Add(a, -2), api.OK)
		check(t, "add", b.Add(c, 5), api.OK)
		check(t, "add", b.Add(row(), -1), api.OK)
		check(t, "none of another", b.Add(row(num(9)), 0), api.OK)
		has(t, "two rows", b, Entry{row(api.Value{}), 1}, Entry{c, 2})
		if b.Count(a) != 0 || b.Count(row(num(9))) != 0 || b.Count(row(api.Value{Kind: 9})) != 0 {
			t.Error("rows that aren't there")
		}
	}
}

func TestAddWrong(t *testing.T) {
	b := New()
	check(t, "add", b.Add(row(num(1)), 1), api.OK)
	for _, bad := range []api.Value{{Kind: 3}, {N: 1}, {Kind: api.Int, S: "a"}, {Kind: api.Text, N: 1}, {Kind: -1}} {
		check(t, "unformed", b.Add(row(num(1), bad), 1), api.ErrArg)
		check(t, "unformed", b.Add(row(bad), 0), api.ErrArg)
	}
	has(t, "as it was", b, Entry{row(num(1)), 1})
}

func TestOver(t *testing.T) {
	r := row(num(1))
	for _, c := range []struct {
		a, b int64
		e    api.Errno
	}{
		{math.MaxInt64, 1, api.ErrOver}, {1, math.MaxInt64, api.ErrOver}, {math.MaxInt64, math.MaxInt64, api.ErrOver}, {math.MinInt64, -1, api.ErrOver}, {-1, math.MinInt64, api.ErrOver}, {math.MinInt64, math.MinInt64, api.ErrOver},
		{math.MaxInt64 - 1, 1, api.OK}, {math.MinInt64 + 1, -1, api.OK}, {math.MaxInt64, math.MinInt64, api.OK}, {math.MinInt64, math.MaxInt64, api.OK}, {math.MaxInt64, 0, api.OK}, {math.MinInt64, 0, api.OK},
	} {
		b := New()
		check(t, "add", b.Add(r, c.a), api.OK)
		check(t, "add", b.Add(r, c.b), c.e)
		want := c.a + c.b
		if c.e != api.OK {
			want = c.a
		}
		if b.Count(r) != want {
			t.Error(c, b.Count(r))
		}
	}
}

func TestRows(t *testing.T) {
	b := New()
	if got, e := b.Rows(); len(got) != 0 || e != api.OK {
		t.Error(got, e)
	}
	b.Add(row(text("b")), 2)
	b.Add(row(num(3)), 1)
	b.Add(row(text("a")), 1)
	got, e := b.Rows()
	if want := [][]api.Value{row(num(3)), row(text("a")), row(text("b")), row(text("b"))}; !slices.EqualFunc(got, want, slices.Equal[[]api.Value]) || e != api.OK {
		t.Error(got, e)
	}
	got[2][0] = num(77)
	if got[3][0] != text("b") || b.Count(row(text("b"))) != 2 {
		t.Error("rows share their memory")
	}
	b.Add(row(num(4)), -1)
	if got, e := b.Rows(); len(got) != 0 || e != api.ErrState {
		t.Error(got, e)
	}
	b.Add(row(num(5)), math.MaxInt64)
	if got, e := b.Rows(); len(got) != 0 || e != api.ErrState {
		t.Error(got, e)
	}
}

func TestRowsLarge(t *testing.T) {
	b := New()
	b.Add(row(num(1)), 99999)
	b.Add(row(num(2)), 1)
	if got, e := b.Rows(); len(got) != 100000 || e != api.OK {
		t.Error(len(got), e)
	}
	b.Add(row(num(3)), 1)
	if got, e := b.Rows(); len(got) != 0 || e != api.ErrLarge {
		t.Error(len(got), e)
	}
	for i := range int64(9) {
		b.Add(row(num(10+i)), math.MaxInt64)
	}
	if got, e := b.Rows(); len(got) != 0 || e != api.ErrLarge {
		t.Error(len(got), e)
	}
}

func TestJoin(t *testing.T) {
	x, y, z := row(num(1)), row(num(2)), row(num(3))
	a, b := New(), New()
	a.Add(x, 1)
	a.Add(y, 2)
	b.Add(y, 3)
	b.Add(z, -4)
	check(t, "join", a.Join(b, 1), api.OK)
	has(t, "joined", a, Entry{x, 1}, Entry{y, 5}, Entry{z, -4})
	check(t, "join", a.Join(b, -1), api.OK)
	has(t, "taken out again", a, Entry{x, 1}, Entry{y, 2})
	check(t, "join", a.Join(b, -1), api.OK)
	has(t, "taken out", a, Entry{x, 1}, Entry{y, -1}, Entry{z, 4})
	has(t, "the other one", b, Entry{y, 3}, Entry{z, -4})
	check(t, "to itself", b.Join(b, 1), api.OK)
	has(t, "twice", b, Entry{y, 6}, Entry{z, -8})
	check(t, "from itself", b.Join(b, -1), api.OK)
	has(t, "nothing", b)
	check(t, "of nothing", a.Join(New(), 1), api.OK)
	check(t, "to nothing", New().Join(a, 1), api.OK)
	var zero Bag
	check(t, "to the zero bag", zero.Join(a, 1), api.OK)
	has(t, "the zero bag", &zero, Entry{x, 1}, Entry{y, -1}, Entry{z, 4})
}

func TestJoinWrong(t *testing.T) {
	a := New()
	a.Add(row(num(1)), 1)
	for _, sign := range []int64{0, 2, -2, math.MinInt64, math.MaxInt64} {
		check(t, "sign", a.Join(New(), sign), api.ErrArg)
	}
	check(t, "nil", a.Join(nil, 1), api.ErrArg)
	check(t, "nil", a.Join(nil, 5), api.ErrArg)
	has(t, "as it was", a, Entry{row(num(1)), 1})
}

func TestJoinOver(t *testing.T) {
	r := row(num(5))
	for _, c := range []struct {
		a, b, sign int64
		e          api.Errno
	}{
		{math.MaxInt64, 1, 1, api.ErrOver}, {math.MinInt64, 1, -1, api.ErrOver}, {math.MinInt64, -1, 1, api.ErrOver}, {math.MaxInt64, -1, -1, api.ErrOver},
		{0, math.MinInt64, -1, api.ErrOver}, {1, math.MinInt64, -1, api.ErrOver}, {-1, math.MinInt64, -1, api.OK}, {math.MinInt64, math.MinInt64, -1, api.OK}, {0, math.MinInt64, 1, api.OK}, {-1, math.MinInt64, 1, api.ErrOver},
		{math.MaxInt64, 1, -1, api.OK}, {math.MinInt64, 1, 1, api.OK}, {-1, math.MaxInt64, -1, api.OK}, {-2, math.MaxInt64, -1, api.ErrOver},
	} {
		a, b := New(), New()
		a.Add(row(num(1)), 1)
		a.Add(r, c.a)
		b.Add(row(num(1)), 1)
		b.Add(r, c.b)
		b.Add(row(num(9)), 1)
		check(t, "join", a.Join(b, c.sign), c.e)
		want := c.a + c.sign*c.b
		if c.e != api.OK {
			want = c.a
			if a.Count(row(num(1))) != 1 || a.Count(row(num(9))) != 0 {
				t.Error("changed, though over", c)
			}
		}
		if a.Count(r) != want {
			t.Error(c, a.Count(r))
		}
	}
}

func TestSame(t *testing.T) {
	a, b := New(), New()
	a.Add(row(num(1)), 1)
	for _, c := range []struct {
		x, y *Bag
		want bool
	}{{nil, nil, true}, {nil, New(), true}, {&Bag{}, nil, true}, {New(), &Bag{}, true}, {a, nil, false}, {nil, a, false}, {a, b, false}, {a, a, true}} {
		if Same(c.x, c.y) != c.want {
			t.Error(c)
		}
	}
	b.Add(row(num(1)), 2)
	if Same(a, b) {
		t.Error("other times")
	}
	b.Add(row(num(1)), -1)
	if !Same(a, b) {
		t.Error("the same")
	}
	a.Add(row(num(2)), 1)
	b.Add(row(text("2")), 1)
	if Same(a, b) {
		t.Error("other rows")
	}
	a.Add(row(num(2)), -1)
	a.Add(row(num(1)), -1)
	if !Same(a, nil) {
		t.Error("emptied")
	}
}

func TestNil(t *testing.T) {
	var b *Bag
	check(t, "add", b.Add(nil, 1), api.ErrArg)
	check(t, "join", b.Join(New(), 1), api.ErrArg)
	if got, e := b.Rows(); got != nil || e != api.ErrArg {
		t.Error(got, e)
	}
	if b.Count(nil) != 0 || b.Len() != 0 || b.Entries() != nil {
		t.Error("nil isn't zero")
	}
}

func TestNothingIsShared(t *testing.T) {
	b, c := New(), New()
	r := row(num(1))
	b.Add(r, 1)
	r[0] = num(2)
	b.Entries()[0].Row[0] = num(3)
	check(t, "join", c.Join(b, 1), api.OK)
	c.Entries()[0].Row[0] = num(4)
	has(t, "b", b, Entry{row(num(1)), 1})
	has(t, "c", c, Entry{row(num(1)), 1})
}

func TestRandom(t *testing.T) {
	r := rand.New(rand.NewSource(14))
	values := row(api.Value{}, num(-1), num(0), num(1), text(""), text("a"), text("\x00"))
	for range 200 {
		b := New()
		var list []Entry
		for range 60 {
			var x []api.Value
			for range r.Intn(3) {
				x = append(x, values[r.Intn(len(values))])
			}
			n := int64(r.Intn(7) - 3)
			check(t, "add", b.Add(x, n), api.OK)
			i, found := slices.BinarySearchFunc(list, x, func(e Entry, x []api.Value) int { return value.Rows(e.Row, x) })
			if !found {
				list = slices.Insert(list, i, Entry{Row: x})
			}
			list[i].N += n
			if list[i].N == 0 {
				list = slices.Delete(list, i, i+1)
			}
		}
		has(t, "random", b, list...)
	}
}
