package tree

import (
	"bytes"
	"fmt"
	"maps"
	"math/rand"
	"slices"
	"strings"
	"testing"

	"wainscot/api"
	"wainscot/disk"
	"wainscot/node"
	"wainscot/pager"
)

func check(t *testing.T, what string, got, want api.Errno) {
	t.Helper()
	if got != want {
		t.Fatalf("%s: %d, not %d", what, got, want)
	}
}

func newPager(t *testing.T, cache int) *pager.Pager {
	t.Helper()
	p, e := pager.Open(disk.New(1<<20), cache)
	check(t, "open", e, api.OK)
	return p
}

func newTree(t *testing.T) (*pager.Pager, int) {
	t.Helper()
	p := newPager(t, 40)
	root, e := Create(p)
	check(t, "create", e, api.OK)
	return p, root
}

// shape asks what each tree's pages must be, and answers how many there are.
func shape(t *testing.T, p *pager.Pager, root int, cells map[string]string) int {
	t.Helper()
	pages, e := Pages(p, root)
	check(t, "pages", e, api.OK)
	n := 0
	for k, v := range cells {
		n += len(k) + len(v) + 4
	}
	if len(pages) > 3+n/60 || len(cells) == 0 && len(pages) != 1 {
		t.Fatalf("%d pages for %d cells of %d bytes", len(pages), len(cells), n)
	}
	if !slices.IsSorted(pages) || len(slices.Compact(slices.Clone(pages))) != len(pages) || !slices.Contains(pages, root) {
		t.Fatal("pages", pages)
	}
	// Nothing but the tree is there: each page is the head, a free one, or one of the tree.
	if 1+len(p.Free())+len(pages) != p.Pages() {
		t.Fatalf("%d pages, %d of the tree, %d free", p.Pages(), len(pages), len(p.Free()))
	}
	for _, page := range pages {
		b, e := p.Get(page)
		check(t, "get", e, api.OK)
		if _, e := node.Decode(b); e != api.OK {
			t.Fatal("no node", page)
		}
	}
	return len(pages)
}

// same asks whether a tree has just these cells, by all calls.
func same(t *testing.T, p *pager.Pager, root int, cells map[string]string) {
	t.Helper()
	keys := slices.Sorted(maps.Keys(cells))
	at, with := []byte(nil), true
	for _, k := range keys {
		key, value, ok, e := Next(p, root, at, with)
		if string(key) != k || string(value) != cells[k] || !ok || e != api.OK {
			t.Fatalf("next of %q: %q %q %v %d", at, key, value, ok, e)
		}
		at, with = key, false
	}
	if key, value, ok, e := Next(p, root, at, with); key != nil || value != nil || ok || e != api.OK {
		t.Fatal("next of the last one", key, value, ok, e)
	}
	key, value, ok, e := Last(p, root)
	for _, k := range slices.Backward(keys) {
		if string(key) != k || string(value) != cells[k] || !ok || e != api.OK {
			t.Fatalf("prev: %q %q %v %d, not %q", key, value, ok, e, k)
		}
		key, value, ok, e = Prev(p, root, key, false)
	}
	if key != nil || value != nil || ok || e != api.OK {
		t.Fatal("prev of the first one", key, value, ok, e)
	}
}

// probe asks all calls about one key.
func probe(t *testing.T, p *pager.Pager, root int, cells map[string]string, k string) {
	t.Helper()
	want, there := cells[k]
	value, ok, e := Get(p, root, []byte(k))
	if string(value) != want || ok != there || e != api.OK {
		t.Fatalf("get %q: %q %v %d", k, value, ok, e)
	}
	keys := slices.Sorted(maps.Keys(cells))
	for _, with := range []bool{false, true} {
		i, found := slices.BinarySearch(keys, k)
		before := i - 1
		if found && with {
			before = i
		}
		if found && !with {
			i++
		}
		key, value, ok, e := Next(p, root, []byte(k), with)
		if e != api.OK || ok != (i < len(keys)) || ok && (string(key) != keys[i] || string(value) != cells[keys[i]]) || !ok && (key != nil || value != nil) {
			t.Fatalf("next of %q: %q %v %d", k, key, ok, e)
		}
		key, value, ok, e = Prev(p, root, []byte(k), with)
		if e != api.OK || ok != (before >= 0) || ok && (string(key) != keys[before] || string(value) != cells[keys[before]]) || !ok && (key != nil || value != nil) {
			t.Fatalf("prev of %q: %q %v %d", k, key, ok, e)
		}
	}
}

func TestEmpty(t *testing.T) {
	p, root := newTree(t)
	shape(t, p, root, nil)
	same(t, p, root, nil)
	probe(t, p, root, nil, "")
	probe(t, p, root, nil, "a")
	if ok, e := Delete(p, root, []byte("a")); ok || e != api.OK {
		t.Error(ok, e)
	}
	if b, _ := p.Get(root); !bytes.HasPrefix(b, []byte{1, 0}) {
		t.Error("the root isn't an empty leaf")
	}
}

func TestFew(t *testing.T) {
	p, root := newTree(t)
	for _, k := range []string{"b", "a", "c"} {
		check(t, "put", Put(p, root, []byte(k), []byte("of "+k)), api.OK)
	}
	cells := map[string]string{"a": "of a", "b": "of b", "c": "of c"}
	same(t, p, root, cells)
	for _, k := range []string{"", "a", "aa", "b", "c", "d"} {
		probe(t, p, root, cells, k)
	}
	check(t, "put again", Put(p, root, []byte("b"), nil), api.OK)
	cells["b"] = ""
	same(t, p, root, cells)
	if ok, e := Delete(p, root, []byte("bb")); ok || e != api.OK {
		t.Error(ok, e)
	}
	if ok, e := Delete(p, root, []byte("a")); !ok || e != api.OK {
		t.Error(ok, e)
	}
	delete(cells, "a")
	same(t, p, root, cells)
}

func TestBounds(t *testing.T) {
	p, root := newTree(t)
	x := func(n int) []byte { return bytes.Repeat([]byte("x"), n) }
	for _, c := range []struct {
		key, value int
		e          api.Errno
	}{{1, 159, api.OK}, {120, 40, api.OK}, {120, 0, api.OK}, {0, 1, api.ErrArg}, {121, 0, api.ErrArg}, {121, 200, api.ErrArg}, {0, 200, api.ErrArg}, {1, 160, api.ErrLarge}, {120, 41, api.ErrLarge}, {1, 1000, api.ErrLarge}} {
		check(t, fmt.Sprint(c), Put(p, root, x(c.key), x(c.value)), c.e)
	}
	same(t, p, root, map[string]string{string(x(1)): string(x(159)), string(x(120)): ""})
	// Keys that can't be there are sought like others.
	probe(t, p, root, map[string]string{string(x(1)): string(x(159)), string(x(120)): ""}, string(x(500)))
	if ok, e := Delete(p, root, x(500)); ok || e != api.OK {
		t.Error(ok, e)
	}
}

// grow puts and deletes cells at random, in ways that keys and sizes tell.
func grow(t *testing.T, seed int64, key func(r *rand.Rand) string, value func(r *rand.Rand, k string) string) {
	r := rand.New(rand.NewSource(seed))
	p, root := newTree(t)
	cells := map[string]string{}
	most := 0
	for round := range 12 {
		puts := []int{9, 9, 5, 1}[round%4]
		for i := range 150 {
			k := key(r)
			if there := slices.Sorted(maps.Keys(cells)); r.Intn(4) > 0 && len(there) > 0 && puts < 9 {
				k = there[r.Intn(len(there))]
			}
			if r.Intn(10) < puts {
				v := value(r, k)
				check(t, "put", Put(p, root, []byte(k), []byte(v)), api.OK)
				cells[k] = v
			} else {
				_, there := cells[k]
				ok, e := Delete(p, root, []byte(k))
				if ok != there || e != api.OK {
					t.Fatal("delete", ok, e)
				}
				delete(cells, k)
			}
			if i%6 == 0 {
				most = max(most, shape(t, p, root, cells))
			}
			if i%3 == 0 {
				probe(t, p, root, cells, key(r))
			}
		}
		same(t, p, root, cells)
	}
	for _, k := range slices.Sorted(maps.Keys(cells)) {
		if ok, e := Delete(p, root, []byte(k)); !ok || e != api.OK {
			t.Fatal(ok, e)
		}
		delete(cells, k)
		shape(t, p, root, cells)
	}
	same(t, p, root, nil)
	if most < 5 {
		t.Error("the tree never grew:", most)
	}
}

func TestGrow(t *testing.T) {
	long := strings.Repeat("p", 117)
	for i, c := range []struct {
		key   func(r *rand.Rand) string
		value func(r *rand.Rand, k string) string
	}{
		{func(r *rand.Rand) string { return fmt.Sprint(r.Intn(2000)) }, func(r *rand.Rand, k string) string { return strings.Repeat("v", r.Intn(20)) }},
		{func(r *rand.Rand) string { return long + fmt.Sprint(100+r.Intn(900)) }, func(r *rand.Rand, k string) string { return strings.Repeat("v", r.Intn(41)) }},
		{func(r *rand.Rand) string { return fmt.Sprint(r.Intn(300)) }, func(r *rand.Rand, k string) string { return strings.Repeat("v", (160-len(k))*r.Intn(2)) }},
		{func(r *rand.Rand) string { return long[:r.Intn(118)] + fmt.Sprint(r.Intn(999)) }, func(r *rand.Rand, k string) string { return strings.Repeat("v", r.Intn(161-len(k))) }},
		{func(r *rand.Rand) string { return string([]byte{byte(r.Intn(256)), byte(r.Intn(4))}) }, func(r *rand.Rand, k string) string { return "" }},
	} {
		grow(t, int64(i), c.key, c.value)
	}
}

func TestRisingAndFalling(t *testing.T) {
	for _, down := range []bool{false, true} {
		for _, backwards := range []bool{false, true} {
			p, root := newTree(t)
			cells := map[string]string{}
			for i := range 150 {
				if down {
					i = 149 - i
				}
				k, v := fmt.Sprintf("%0100d", i), fmt.Sprint(i)
				check(t, "put", Put(p, root, []byte(k), []byte(v)), api.OK)
				cells[k] = v
				shape(t, p, root, cells)
			}
			same(t, p, root, cells)
			for i := range 150 {
				if backwards {
					i = 149 - i
				}
				k := fmt.Sprintf("%0100d", i)
				if ok, e := Delete(p, root, []byte(k)); !ok || e != api.OK {
					t.Fatal(ok, e)
				}
				delete(cells, k)
				shape(t, p, root, cells)
			}
			same(t, p, root, nil)
		}
	}
}

// Cells that are left over here and there don't keep their pages.
func TestThinnedOut(t *testing.T) {
	for _, each := range []int{2, 3, 7} {
		p, root := newTree(t)
		cells := map[string]string{}
		for i := range 300 {
			k := fmt.Sprintf("%s%04d", strings.Repeat("k", i%3*30), i)
			check(t, "put", Put(p, root, []byte(k), []byte(strings.Repeat("v", i%60))), api.OK)
			cells[k] = strings.Repeat("v", i%60)
		}
		for i, k := range slices.Sorted(maps.Keys(cells)) {
			if i%each == 0 {
				continue
			}
			if ok, e := Delete(p, root, []byte(k)); !ok || e != api.OK {
				t.Fatal(ok, e)
			}
			delete(cells, k)
			if i%5 == 0 {
				shape(t, p, root, cells)
			}
		}
		shape(t, p, root, cells)
		for _, k := range slices.Sorted(maps.Keys(cells)) {
			check(t, "put", Put(p, root, []byte(k), nil), api.OK)
			cells[k] = ""
		}
		shape(t, p, root, cells)
		same(t, p, root, cells)
	}
}

func TestDrop(t *testing.T) {
	p, root := newTree(t)
	other, e := Create(p)
	check(t, "create", e, api.OK)
	for i := range 200 {
		check(t, "put", Put(p, root, fmt.Append(nil, i), []byte("some value")), api.OK)
	}
	check(t, "put", Put(p, other, []byte("a"), []byte("b")), api.OK)
	check(t, "drop", Drop(p, root), api.OK)
	if len(p.Free()) != p.Pages()-2 {
		t.Error(p.Free(), p.Pages())
	}
	same(t, p, other, map[string]string{"a": "b"})
	check(t, "dropped twice", Drop(p, root), api.ErrNone)
}

// errors are what all calls answer of one root; beside them they answer nothing.
func errors(t *testing.T, p *pager.Pager, root int) []api.Errno {
	t.Helper()
	value, ok, a := Get(p, root, []byte("a"))
	gone, b := Delete(p, root, []byte("a"))
	nextKey, nextValue, isNext, c := Next(p, root, nil, true)
	prevKey, prevValue, isPrev, d := Prev(p, root, []byte("a"), true)
	lastKey, lastValue, isLast, e := Last(p, root)
	pages, f := Pages(p, root)
	if value != nil || nextKey != nil || nextValue != nil || prevKey != nil || prevValue != nil || lastKey != nil || lastValue != nil || pages != nil || ok || gone || isNext || isPrev || isLast {
		t.Error("something beside an error")
	}
	return []api.Errno{a, b, c, d, e, f, Put(p, root, []byte("a"), nil), Put(p, root, nil, nil), Put(p, root, []byte("a"), make([]byte, 200)), Drop(p, root)}
}

func all(t *testing.T, what string, l []api.Errno, want api.Errno) {
	t.Helper()
	for i, e := range l {
		if e != want {
			t.Error(what, i, e)
		}
	}
}

func TestErrors(t *testing.T) {
	n, e := Create(nil)
	if n != 0 {
		t.Error(n)
	}
	all(t, "nil", append(errors(t, nil, 1), e), api.ErrArg)
	p, root := newTree(t)
	for _, n := range []int{0, -1, root + 1, 1 << 40} {
		all(t, "no page", errors(t, p, n), api.ErrNone)
	}
	for _, b := range []string{"", "\x03", "\x01\x01", "\x02\x00\x01", "junk"} {
		n, _ := p.Take()
		p.Put(n, []byte(b))
		all(t, "no node", errors(t, p, n), api.ErrBad)
		// So it is where an inner node leads to one.
		inner, _ := p.Take()
		bytes, _ := node.Encode(node.Node{Keys: [][]byte{[]byte("b")}, Kids: []int{n, n}})
		p.Put(inner, bytes)
		all(t, "leads to no node", errors(t, p, inner), api.ErrBad)
		bytes, _ = node.Encode(node.Node{Keys: [][]byte{[]byte("b")}, Kids: []int{7777, 7777}})
		p.Put(inner, bytes)
		all(t, "leads to no page", errors(t, p, inner), api.ErrNone)
	}
	d := disk.New(1 << 20)
	q, _ := pager.Open(d, 4)
	root, _ = Create(q)
	d.SetFuse(0)
	check(t, "commit", q.Commit(), api.ErrDisk)
	_, e = Create(q)
	all(t, "over", append(errors(t, q, root), e), api.ErrDisk)
	q, _ = pager.Open(disk.New(0), 4)
	for range 4 {
		q.Take()
	}
	if n, e := Create(q); n != 0 || e != api.ErrFull {
		t.Error(n, e)
	}
}

// Pages that lead in a ring are no tree; but all calls end.
func TestRings(t *testing.T) {
	p := newPager(t, 10)
	var pages []int
	for range 9 {
		n, _ := p.Take()
		pages = append(pages, n)
	}
	for i, n := range pages {
		b, _ := node.Encode(node.Node{Keys: [][]byte{[]byte("b"), []byte("c")}, Kids: []int{pages[(i+1)%9], pages[i], pages[(i+5)%9]}})
		p.Put(n, b)
	}
	for _, n := range pages {
		all(t, "ring", errors(t, p, n), api.ErrBad)
	}
}

// Where nodes of two kinds stand side by side, they are no tree; but all calls end.
func TestMixedKinds(t *testing.T) {
	p := newPager(t, 10)
	put := func(n node.Node) int {
		page, e := p.Take()
		check(t, "take", e, api.OK)
		b, e := node.Encode(n)
		check(t, "encode", e, api.OK)
		check(t, "put", p.Put(page, b), api.OK)
		return page
	}
	list := func(s ...string) [][]byte {
		var l [][]byte
		for _, k := range s {
			l = append(l, []byte(k))
		}
		return l
	}
	one := put(node.Node{Leaf: true, Keys: list("a"), Values: list("1")})
	two := put(node.Node{Leaf: true, Keys: list("c"), Values: list("2")})
	three := put(node.Node{Leaf: true, Keys: list("e"), Values: list("3")})
	inner := put(node.Node{Keys: list("d"), Kids: []int{two, three}})
	root := put(node.Node{Keys: list("b"), Kids: []int{one, inner}})
	if ok, e := Delete(p, root, []byte("a")); ok || e != api.ErrBad {
		t.Error(ok, e)
	}
	if value, ok, e := Get(p, root, []byte("e")); string(value) != "3" || !ok || e != api.OK {
		t.Error(value, ok, e)
	}
}

// What fails on the way is taken back by Undo.
func TestFull(t *testing.T) {
	d := disk.New(1 << 20)
	p, _ := pager.Open(d, 4)
	root, _ := Create(p)
	cells := map[string]string{}
	for i := range 100 {
		k := fmt.Sprintf("%050d", i)
		check(t, "put", Put(p, root, []byte(k), []byte("v")), api.OK)
		cells[k] = "v"
	}
	check(t, "commit", p.Commit(), api.OK)
	d.SetRoom(0)
	met := false
	for i := range 300 {
		check(t, "mark", p.Mark(), api.OK)
		k := fmt.Sprintf("%048d%d", i*37%100, 10+i%90)
		e := Put(p, root, []byte(k), []byte("w"))
		if e == api.ErrFull {
			met = true
			check(t, "undo", p.Undo(), api.OK)
			same(t, p, root, cells)
			continue
		}
		check(t, "put", e, api.OK)
		cells[k] = "w"
	}
	if !met {
		t.Error("the disk was never full")
	}
	same(t, p, root, cells)
}

func TestNothingIsShared(t *testing.T) {
	p, root := newTree(t)
	k, v := []byte("key"), []byte("value")
	check(t, "put", Put(p, root, k, v), api.OK)
	k[0], v[0] = 'x', 'x'
	got, _, _ := Get(p, root, []byte("key"))
	got[0] = 'y'
	key, value, _, _ := Last(p, root)
	key[0], value[0] = 'z', 'z'
	same(t, p, root, map[string]string{"key": "value"})
}
