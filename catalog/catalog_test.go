package catalog

import (
	"bytes"
	"math"
	"slices"
	"strconv"
	"strings"
	"testing"

	"wainscot/api"
)

func check(t *testing.T, what string, got, want api.Errno) {
	t.Helper()
	if got != want {
		t.Errorf("%s: %d, not %d", what, got, want)
	}
}

func columns(names ...string) []api.Column {
	var l []api.Column
	for i, n := range names {
		l = append(l, api.Column{Name: n, Kind: 1 + i%2})
	}
	return l
}

func table(name string, names ...string) Object {
	return Object{Kind: 1, Name: name, Columns: columns(names...), Root: 1}
}

func index(name, on string, keys ...int) Object {
	return Object{Kind: 2, Name: name, On: on, Keys: keys, Root: 2}
}

func view(name string, uses ...string) Object {
	return Object{Kind: 3, Name: name, Columns: columns("a"), Text: "SELECT", Uses: uses, Root: 3}
}

func same(a, b Object) bool {
	return a.Kind == b.Kind && a.Name == b.Name && a.On == b.On && slices.Equal(a.Columns, b.Columns) && slices.Equal(a.Keys, b.Keys) && a.Unique == b.Unique && a.Text == b.Text && slices.Equal(a.Uses, b.Uses) && a.Root == b.Root
}

func eight() []string { return strings.Fields("a b c d e f g h") }

func good() []Object {
	bound := table("t", "a", "b")
	bound.Columns[0].NotNull, bound.Columns[1].Unique = true, true
	unique := index("i", "t", 7, 0, math.MaxInt)
	unique.Unique, unique.Root = true, api.MaxPages-1
	any := view("v", "t", "u")
	any.Columns = []api.Column{{Name: "α"}, {Name: "b", Kind: 2}}
	any.Text = strings.Repeat("\xff", 1000)
	short := view("v", "t")
	short.Text = "S"
	return []Object{short, table("t", "a"), table("αω_9", eight()...), bound, index("i", "t", 0), unique, index("i", "i", 0, 1, 2, 3, 4, 5, 6, 7), view("v", "t"), any}
}

func bad() []Object {
	var l []Object
	for _, o := range good() {
		for _, change := range []func(o *Object){
			func(o *Object) { o.Kind = 0 }, func(o *Object) { o.Kind = 4 }, func(o *Object) { o.Kind = -1 }, func(o *Object) { o.Kind = o.Kind%3 + 1 }, func(o *Object) { o.Name = "" }, func(o *Object) { o.Name = "SET" }, func(o *Object) { o.Name = "1" }, func(o *Object) { o.Root = 0 }, func(o *Object) { o.Root = -1 }, func(o *Object) { o.Root = api.MaxPages }, func(o *Object) { o.Root = math.MaxInt },
		} {
			c := clone(o)
			change(&c)
			l = append(l, c)
		}
	}
	of := func(o Object, changes ...func(o *Object)) {
		for _, change := range changes {
			c := clone(o)
			change(&c)
			l = append(l, c)
		}
	}
	of(table("t", "a", "b"), func(o *Object) { o.On = "t" }, func(o *Object) { o.Keys = []int{0} }, func(o *Object) { o.Unique = true }, func(o *Object) { o.Text = "a" }, func(o *Object) { o.Uses = []string{"u"} },
		func(o *Object) { o.Columns = nil }, func(o *Object) { o.Columns = columns(append(eight(), "i")...) }, func(o *Object) { o.Columns[1].Name = "a" }, func(o *Object) { o.Columns[1].Name = "" }, func(o *Object) { o.Columns[1].Name = "INT" }, func(o *Object) { o.Columns[0].Kind = 0 }, func(o *Object) { o.Columns[0].Kind = 3 }, func(o *Object) { o.Columns[0].Kind = -1 })
	of(index("i", "t", 0, 1), func(o *Object) { o.On = "" }, func(o *Object) { o.On = "1" }, func(o *Object) { o.Columns = columns("a") }, func(o *Object) { o.Text = "a" }, func(o *Object) { o.Uses = []string{"u"} }, func(o *Object) { o.Keys = nil }, func(o *Object) { o.Keys[1] = 0 }, func(o *Object) { o.Keys[0] = -1 }, func(o *Object) { o.Keys[0] = math.MinInt }, func(o *Object) { o.Keys = []int{0, 1, 2, 3, 4, 5, 6, 7, 8} })
	of(view("v", "t"), func(o *Object) { o.On = "t" }, func(o *Object) { o.Keys = []int{0} }, func(o *Object) { o.Unique = true }, func(o *Object) { o.Columns = nil }, func(o *Object) { o.Columns[0].NotNull = true }, func(o *Object) { o.Columns[0].Unique = true }, func(o *Object) { o.Columns[0].Kind = 3 }, func(o *Object) { o.Columns[0].Kind = -1 }, func(o *Object) { o.Columns = columns("a", "b", "a") }, func(o *Object) { o.Columns = columns(append(eight(), "i")...) },
		func(o *Object) { o.Text = "" }, func(o *Object) { o.Text = strings.Repeat("a", 1001) }, func(o *Object) { o.Uses = nil }, func(o *Object) { o.Uses = []string{"t", "t"} }, func(o *Object) { o.Uses = []string{""} }, func(o *Object) { o.Uses = []string{"t", "AS"} }, func(o *Object) { o.Uses = []string{"t", "u", "v"} })
	return append(l, Object{})
}

func TestFormed(t *testing.T) {
	for _, o := range good() {
		if !Formed(o) {
			t.Error(o)
		}
	}
	for _, o := range bad() {
		if Formed(o) {
			t.Error(o)
		}
		if pieces, e := Encode(o); len(pieces) != 0 || e != api.ErrArg {
			t.Error(o, e)
		}
		check(t, "add", New().Add(o), api.ErrArg)
	}
}

func TestPieces(t *testing.T) {
	var all [][][]byte
	for i, o := range good() {
		pieces, e := Encode(o)
		check(t, "encode", e, api.OK)
		if len(pieces) == 0 || slices.ContainsFunc(pieces, func(p []byte) bool { return len(p) > 100 }) {
			t.Error(i, len(pieces))
		}
		back, e := Decode(pieces)
		if !same(back, o) || e != api.OK {
			t.Error(back, e)
		}
		for n := range pieces {
			if back, e := Decode(pieces[:n]); !same(back, Object{}) || e != api.ErrForm {
				t.Error(i, n, back, e)
			}
		}
		for _, other := range all {
			if slices.EqualFunc(pieces, other, bytes.Equal) {
				t.Error(i, "has another one's pieces")
			}
		}
		all = append(all, pieces)
		wrong := [][][]byte{append(slices.Clone(pieces), nil), append(slices.Clone(pieces), []byte{0}), append(slices.Clone(pieces), pieces[0]), append([][]byte{nil}, pieces...), pieces[1:], {bytes.Join(pieces, nil)[1:]}}
		if len(pieces) > 1 {
			wrong = append(wrong, [][]byte{bytes.Join(pieces, nil)}, append([][]byte{pieces[0][:50], pieces[0][50:]}, pieces[1:]...))
		}
		for k, w := range wrong {
			if back, e := Decode(w); !same(back, Object{}) || e != api.ErrForm {
				t.Error(i, k, back, e)
			}
		}
	}
}

func TestDecodeWrong(t *testing.T) {
	for _, s := range []string{"", "\x00", "\x80", "\x01", "\x01\x01t\x00\x81\xff\xff\xff\xff\xff\xff\xff\xff\x7f\x80", "\x01\x01t\x00\xff\xff\xff\xff\x7f\x80\x80\x80", "\x01\x81\xff\xff\xff\xff\xff\xff\xff\xff\x7f", "\x81\x01", strings.Repeat("\xff", 100), strings.Repeat("\x00", 100)} {
		if o, e := Decode([][]byte{[]byte(s)}); !same(o, Object{}) || e != api.ErrForm {
			t.Errorf("%x: %v %d", s, o, e)
		}
	}
	// Whatever byte is another one, it is another object, or none.
	pieces, _ := Encode(good()[3])
	for i := range pieces[0] {
		for _, c := range []byte{0, 1, 2, 0x7f, 0x80, 0xff} {
			changed := bytes.Clone(pieces[0])
			if changed[i] == c {
				continue
			}
			changed[i] = c
			if o, e := Decode([][]byte{changed}); e == api.OK && same(o, good()[3]) || e != api.OK && !same(o, Object{}) {
				t.Error(i, c, o, e)
			}
		}
	}
	if o, e := Decode(nil); !same(o, Object{}) || e != api.ErrForm {
		t.Error(o, e)
	}
}

// An index is formed, if its keys are not below 0 and all different. Whether they are columns' numbers is asked where its
// table is known: by Add.
func TestKeyOfNoColumn(t *testing.T) {
	full := New()
	check(t, "add", full.Add(table("t", eight()...)), api.OK)
	for key, want := range map[int]api.Errno{0: api.OK, 7: api.OK, 8: api.ErrName, 9: api.ErrName, math.MaxInt: api.ErrName} {
		o := Object{Kind: 2, Name: "i", On: "t", Keys: []int{key}, Unique: true, Root: 5}
		if !Formed(o) {
			t.Error(key, "isn't formed")
		}
		pieces, e := Encode(o)
		check(t, "encode", e, api.OK)
		if back, e := Decode(pieces); !same(back, o) || e != api.OK {
			t.Error(key, back, e)
		}
		check(t, "add without a table", New().Add(o), api.ErrNone)
		check(t, "add", full.Add(o), want)
		full.Drop(2, "i")
	}
	o := Object{Kind: 2, Name: "i", On: "t", Keys: []int{-1}, Unique: true, Root: 5}
	if _, e := Encode(o); Formed(o) || e != api.ErrArg {
		t.Error("a key below 0", e)
	}
	check(t, "add a key below 0", full.Add(o), api.ErrArg)
}

// names are those of a list of objects.
func names(l []Object) string {
	var s []string
	for _, o := range l {
		s = append(s, o.Name)
	}
	return strings.Join(s, " ")
}

func TestAdd(t *testing.T) {
	c := New()
	if len(c.All()) != 0 || len(c.Tables()) != 0 {
		t.Error("a new catalog isn't empty")
	}
	for i, s := range []struct {
		o Object
		e api.Errno
	}{
		{index("i", "t", 0), api.ErrNone}, {view("v", "t"), api.ErrNone}, {table("t", "a", "b"), api.OK}, {table("t", "a"), api.ErrExists}, {view("t", "x"), api.ErrExists}, {index("t", "x", 9), api.ErrExists},
		{index("i", "t", 2), api.ErrName}, {index("i", "t", 0, math.MaxInt), api.ErrName}, {index("i", "u", 9), api.ErrNone}, {index("i", "t", 1, 0), api.OK}, {index("j", "i", 0), api.ErrNone}, {table("i", "a"), api.ErrExists},
		{view("v", "t", "u"), api.ErrNone}, {view("v", "i"), api.ErrNone}, {table("u", "a"), api.OK}, {view("v", "t", "u"), api.OK}, {view("w", "v"), api.ErrNone}, {index("j", "v", 0), api.ErrNone}, {index("j", "t", 1), api.OK}, {index("k", "u", 1), api.ErrName}, {view("w", "u"), api.OK},
	} {
		if e := c.Add(s.o); e != s.e {
			t.Error(i, e)
		}
	}
	if got := names(c.All()); got != "t i u v j w" {
		t.Error(got)
	}
	for _, o := range c.All() {
		if found, ok := c.Find(o.Name); !ok || !same(found, o) {
			t.Error(o, found, ok)
		}
	}
	for _, name := range []string{"", "x", "T"} {
		if o, ok := c.Find(name); ok || !same(o, Object{}) {
			t.Error(name, o)
		}
	}
	if got := names(c.Indexes("t")); got != "i j" {
		t.Error(got)
	}
	if names(c.Indexes("u")) != "" || names(c.Indexes("x")) != "" || names(c.Indexes("")) != "" || names(c.Views("x")) != "" || names(c.Views("")) != "" {
		t.Error("of others")
	}
	if names(c.Views("t")) != "v" || names(c.Views("u")) != "v w" {
		t.Error(names(c.Views("t")), names(c.Views("u")))
	}
	want := []api.Table{{Name: "t", Columns: columns("a", "b")}, {Name: "u", Columns: columns("a")}, {Name: "v", View: true, Columns: columns("a")}, {Name: "w", View: true, Columns: columns("a")}}
	if got := c.Tables(); !slices.EqualFunc(got, want, func(a, b api.Table) bool {
		return a.Name == b.Name && a.View == b.View && slices.Equal(a.Columns, b.Columns)
	}) {
		t.Error(got)
	}
}

func TestFull(t *testing.T) {
	c := New()
	check(t, "add", c.Add(table("t", "a")), api.OK)
	for i := range api.MaxViews {
		check(t, "add", c.Add(view("v"+strconv.Itoa(i), "t")), api.OK)
	}
	check(t, "one view more", c.Add(view("w", "t")), api.ErrFull)
	check(t, "one view more of nothing", c.Add(view("w", "x")), api.ErrFull)
	for i := 1 + api.MaxViews; i < api.MaxObjects; i++ {
		check(t, "add", c.Add(index("i"+strconv.Itoa(i), "t", 0)), api.OK)
	}
	check(t, "one object more", c.Add(table("w", "a")), api.ErrFull)
	check(t, "one object more, wrong", c.Add(index("w", "x", 9)), api.ErrFull)
	check(t, "a name twice", c.Add(table("t", "a")), api.ErrExists)
	if len(c.All()) != api.MaxObjects {
		t.Error(len(c.All()))
	}
	if _, e := c.Drop(3, "v0"); e != api.OK {
		t.Error(e)
	}
	check(t, "in its place", c.Add(view("w", "t")), api.OK)
}

func TestDrop(t *testing.T) {
	build := func() *Catalog {
		c := New()
		for _, o := range []Object{table("t", "a", "b"), index("i", "t", 0), table("u", "a"), index("j", "u", 0), view("v", "u"), index("k", "t", 1)} {
			check(t, "add", c.Add(o), api.OK)
		}
		return c
	}
	for _, s := range []struct {
		kind       int
		name       string
		gone, left string
		e          api.Errno
	}{
		{1, "t", "t i k", "u j v", api.OK}, {2, "i", "i", "t u j v k", api.OK}, {3, "v", "v", "t i u j k", api.OK}, {1, "u", "", "t i u j v k", api.ErrState},
		{1, "i", "", "t i u j v k", api.ErrNone}, {2, "t", "", "t i u j v k", api.ErrNone}, {3, "t", "", "t i u j v k", api.ErrNone}, {1, "v", "", "t i u j v k", api.ErrNone}, {1, "x", "", "t i u j v k", api.ErrNone}, {0, "", "", "t i u j v k", api.ErrNone}, {3, "u", "", "t i u j v k", api.ErrNone},
	} {
		c := build()
		gone, e := c.Drop(s.kind, s.name)
		if names(gone) != s.gone || names(c.All()) != s.left || e != s.e {
			t.Error(s, names(gone), names(c.All()), e)
		}
	}
	c := build()
	c.Drop(3, "v")
	if gone, e := c.Drop(1, "u"); names(gone) != "u j" || e != api.OK {
		t.Error(names(gone), e)
	}
	check(t, "add again", c.Add(table("u", "a")), api.OK)
	if names(c.All()) != "t i k u" {
		t.Error(names(c.All()))
	}
}

func TestNil(t *testing.T) {
	var c *Catalog
	check(t, "add", c.Add(table("t", "a")), api.ErrArg)
	if gone, e := c.Drop(1, "t"); gone != nil || e != api.ErrArg {
		t.Error(gone, e)
	}
	if _, ok := c.Find("t"); ok || c.All() != nil || c.Tables() != nil || c.Indexes("t") != nil || c.Views("t") != nil {
		t.Error("nil isn't zero")
	}
	var zero Catalog
	check(t, "add to the zero catalog", zero.Add(table("t", "a")), api.OK)
}

func TestNothingIsShared(t *testing.T) {
	c := New()
	o, i, v := table("t", "a", "b"), index("i", "t", 0), view("v", "t")
	for _, o := range []Object{o, i, v} {
		check(t, "add", c.Add(o), api.OK)
	}
	o.Columns[0].Name, i.Keys[0], v.Uses[0] = "z", 7, "z"
	c.All()[0].Columns[0].Name = "z"
	c.Tables()[0].Columns[0].Name = "z"
	c.Indexes("t")[0].Keys[0] = 7
	c.Views("t")[0].Uses[0] = "z"
	found, _ := c.Find("t")
	found.Columns[0].Name = "z"
	l := c.All()
	if !same(l[0], table("t", "a", "b")) || !same(l[1], index("i", "t", 0)) || !same(l[2], view("v", "t")) {
		t.Error(l)
	}
	pieces, _ := Encode(good()[8])
	_ = append(pieces[0], 'x')
	if back, e := Decode(pieces); !same(back, good()[8]) || e != api.OK {
		t.Error("pieces share their memory")
	}
}
