package node

import (
	"bytes"
	"math"
	"math/rand"
	"slices"
	"strings"
	"testing"

	"wainscot/api"
)

func list(l ...string) [][]byte {
	var out [][]byte
	for _, s := range l {
		out = append(out, []byte(s))
	}
	return out
}

func leaf(cells ...string) Node {
	n := Node{Leaf: true}
	for i := 0; i < len(cells); i += 2 {
		n.Keys, n.Values = append(n.Keys, []byte(cells[i])), append(n.Values, []byte(cells[i+1]))
	}
	return n
}

func inner(kids []int, keys ...string) Node { return Node{Keys: list(keys...), Kids: kids} }

func same(a, b Node) bool {
	return a.Leaf == b.Leaf && slices.EqualFunc(a.Keys, b.Keys, bytes.Equal) && slices.EqualFunc(a.Values, b.Values, bytes.Equal) && slices.Equal(a.Kids, b.Kids)
}

func x(n int) string { return strings.Repeat("x", n) }

func TestBytes(t *testing.T) {
	for _, c := range []struct {
		n Node
		b string
	}{
		{leaf(), "\x01\x00"},
		{leaf("a", ""), "\x01\x01\x01a\x00"},
		{leaf("a", "bc", "d\x00", "\xff"), "\x01\x02\x01a\x02bc\x02d\x00\x01\xff"},
		{leaf("a", x(159)), "\x01\x01\x01a\x81\x1f" + x(159)},
		{leaf(x(120), x(40)), "\x01\x01\x78" + x(120) + "\x28" + x(40)},
		{inner([]int{1, 2}, "a"), "\x02\x01\x01\x01a\x02"},
		{inner([]int{9999, 300, 127, 9999}, "a", "b", "bb"), "\x02\x03\xce\x0f\x01a\x82\x2c\x01b\x7f\x02bb\xce\x0f"},
		{inner([]int{5, 5}, "a"), "\x02\x01\x05\x01a\x05"},
	} {
		if !Formed(c.n) || Size(c.n) != len(c.b) {
			t.Errorf("%v: %v %d", c.n, Formed(c.n), Size(c.n))
		}
		if b, e := Encode(c.n); string(b) != c.b || e != api.OK {
			t.Errorf("%v: %x %d", c.n, b, e)
		}
		for _, behind := range []string{"", "\x00", strings.Repeat("\x00", 600)} {
			if n, e := Decode([]byte(c.b + behind)); !same(n, c.n) || e != api.OK {
				t.Errorf("%x: %v %d", c.b, n, e)
			}
		}
		for _, behind := range []string{"\x01", "\x00\x00\x01", "\x00x\x00"} {
			if n, e := Decode([]byte(c.b + behind)); !same(n, Node{}) || e != api.ErrForm {
				t.Errorf("%x: %v %d", c.b+behind, n, e)
			}
		}
		for i := range len(c.b) {
			// What is cut off may have been noughts.
			if n, e := Decode([]byte(c.b[:i])); e == api.OK && !strings.HasSuffix(c.b, "\x00") || e != api.OK && !same(n, Node{}) {
				t.Errorf("%x: %v %d", c.b[:i], n, e)
			}
		}
	}
}

func TestUnformed(t *testing.T) {
	value := leaf("a", "b")
	value.Values = nil
	more := leaf("a", "b")
	more.Values = append(more.Values, nil)
	kid := leaf("a", "b")
	kid.Kids = []int{1}
	valued := inner([]int{1, 2}, "a")
	valued.Values = list("b")
	for i, n := range []Node{
		{}, leaf("", "a"), leaf(x(121), ""), leaf("a", x(160)), leaf(x(120), x(41)), leaf("b", "", "a", ""), leaf("a", "", "a", ""), leaf("a", "", "b", "", "ab", ""), value, more, kid, {Leaf: true, Values: list("a")}, {Leaf: true, Kids: []int{1}},
		inner([]int{1}), inner(nil, "a"), inner([]int{1}, "a"), inner([]int{1, 2, 3}, "a"), inner([]int{0, 2}, "a"), inner([]int{1, 0}, "a"), inner([]int{1, -1}, "a"), inner([]int{api.MaxPages, 1}, "a"), inner([]int{1, math.MaxInt}, "a"), inner([]int{1, math.MinInt}, "a"), inner([]int{1, 2}, ""), inner([]int{1, 2}, x(121)), inner([]int{1, 2, 3}, "b", "a"), inner([]int{1, 2, 3}, "a", "a"), valued,
	} {
		if Formed(n) || Size(n) != 0 {
			t.Error(i, "is formed")
		}
		if b, e := Encode(n); len(b) != 0 || e != api.ErrArg {
			t.Error(i, b, e)
		}
	}
}

func TestFormedBounds(t *testing.T) {
	for _, n := range []Node{leaf(x(120), ""), leaf("a", x(159)), inner([]int{1, 9999}, x(120)), {Leaf: true, Keys: [][]byte{}, Values: [][]byte{}, Kids: []int{}}} {
		if !Formed(n) {
			t.Error(n)
		}
	}
}

func TestLarge(t *testing.T) {
	key := func(c string) string { return c + x(99) }
	// 2 bytes, and 102 and the value's of each cell.
	n := leaf(key("a"), "", key("b"), "", key("c"), "", key("d"), x(60), "e", x(35))
	if b, e := Encode(n); len(b) != 508 || Size(n) != 508 || e != api.OK {
		t.Error(len(b), Size(n), e)
	}
	n.Values[0] = []byte("z")
	if b, e := Encode(n); len(b) != 0 || Size(n) != 509 || e != api.ErrLarge || !Formed(n) {
		t.Error(len(b), Size(n), e)
	}
}

// A node's bytes are decoded, though a page hasn't so many.
func TestDecodeMoreThanAPage(t *testing.T) {
	b := []byte{1, 6}
	var want Node
	want.Leaf = true
	for i := range 6 {
		key := bytes.Repeat([]byte{byte('a' + i)}, 100)
		b = append(append(append(b, 100), key...), 1, 'v')
		want.Keys, want.Values = append(want.Keys, key), append(want.Values, []byte("v"))
	}
	if n, e := Decode(b); !same(n, want) || e != api.OK {
		t.Error(e)
	}
}

func TestDecodeWrong(t *testing.T) {
	for _, s := range []string{
		"", "\x00", "\x03\x00", "\x01", "\x02", "\x01\x80\x00", "\x01\x01", "\x01\x01\x00\x00", "\x01\x01\x00\x01a", "\x01\x01\x01a", "\x01\x01\x01a\x01", "\x01\x01\x01a\x80\x00", "\x01\x02\x01b\x00\x01a\x00", "\x01\x02\x01a\x00\x01a\x00", "\x01\x01\x79" + x(121) + "\x00", "\x01\x01\x78" + x(120) + "\x29" + x(41), "\x01\x01\x01a\x81\x20" + x(160),
		"\x02\x00\x01", "\x02\x01\x01\x01a", "\x02\x01\x00\x01a\x01", "\x02\x01\x01\x01a\x00", "\x02\x01\xce\x10\x01a\x01", "\x02\x01\x01\x01a\xce\x10", "\x02\x01\x01\x00\x01", "\x02\x02\x01\x01b\x01\x01a\x01", "\x02\x01\x81\xff\xff\xff\xff\xff\xff\xff\xff\x7f\x01a\x01",
		"\x01\xff\xff\xff\xff\x7f", "\x01\x81\xff\xff\xff\xff\xff\xff\xff\xff\x7f", "\x01\x01\x81\xff\xff\xff\xff\xff\xff\xff\xff\x7f", "\x01\x03\x01a\x00",
	} {
		if n, e := Decode([]byte(s)); !same(n, Node{}) || e != api.ErrForm {
			t.Errorf("%x: %v %d", s, n, e)
		}
	}
}

func TestFind(t *testing.T) {
	n := leaf("b", "", "d", "", "dd", "")
	for key, want := range map[string]struct {
		below int
		found bool
	}{"": {0, false}, "a": {0, false}, "b": {0, true}, "b\x00": {1, false}, "c": {1, false}, "d": {1, true}, "da": {2, false}, "dd": {2, true}, "e": {3, false}} {
		if below, found := Find(n, []byte(key)); below != want.below || found != want.found {
			t.Error(key, below, found)
		}
	}
	if below, found := Find(Node{}, nil); below != 0 || found {
		t.Error(below, found)
	}
	if below, found := Find(inner([]int{1, 2, 3}, "a", "c"), []byte("c")); below != 1 || !found {
		t.Error(below, found)
	}
}

func TestRandom(t *testing.T) {
	r := rand.New(rand.NewSource(12))
	for range 2000 {
		keys := map[string]bool{}
		for range r.Intn(8) {
			keys[strings.Repeat(string(rune('a'+r.Intn(3))), 1+r.Intn(5))+x(r.Intn(30))] = true
		}
		n := Node{Leaf: r.Intn(2) == 0}
		for k := range keys {
			n.Keys = append(n.Keys, []byte(k))
		}
		slices.SortFunc(n.Keys, bytes.Compare)
		for range n.Keys {
			if n.Leaf {
				n.Values = append(n.Values, []byte(x(r.Intn(40))))
			} else {
				n.Kids = append(n.Kids, 1+r.Intn(9999))
			}
		}
		n.Kids = append(n.Kids, 7)
		if n.Leaf {
			n.Kids = nil
		}
		if Formed(n) != (n.Leaf || len(keys) > 0) {
			t.Fatal(n)
		}
		b, e := Encode(n)
		if e == api.OK {
			if back, e := Decode(b); !same(back, n) || e != api.OK || len(b) != Size(n) {
				t.Fatal(n, back, e)
			}
		}
	}
}

func TestNothingIsShared(t *testing.T) {
	b := []byte("\x01\x02\x01a\x02bc\x01d\x01e")
	n, _ := Decode(b)
	clear(b)
	_, _ = append(n.Keys[0], 'z'), append(n.Values[0], 'z')
	if !same(n, leaf("a", "bc", "d", "e")) {
		t.Error(n)
	}
}
