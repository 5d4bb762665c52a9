package pager

import (
	"bytes"
	"encoding/binary"
	"hash/fnv"
	"maps"
	"math"
	"math/rand"
	"slices"
	"testing"

	"wainscot/api"
	"wainscot/disk"
	"wainscot/journal"
)

// world is what the pages should be: contents of the used ones, the free ones, and the roots.
type world struct {
	pages int
	used  map[int]string
	free  map[int]bool
	roots [api.Roots]int
}

func empty() world { return world{pages: 1, used: map[int]string{}, free: map[int]bool{}} }

func (w world) clone() world {
	w.used, w.free = maps.Clone(w.used), maps.Clone(w.free)
	return w
}

func content508(s string) string { return s + string(make([]byte, 508-len(s))) }

// differs tells how a pager isn't as it should be: "" if it is.
func differs(p *Pager, w world) string {
	if p.Pages() != w.pages {
		return "pages"
	}
	if free := p.Free(); !slices.Equal(free, slices.Sorted(maps.Keys(w.free))) {
		return "free"
	}
	for i, root := range w.roots {
		if p.Root(i) != root {
			return "roots"
		}
	}
	for n := range w.pages {
		want, used := w.used[n]
		got, e := p.Get(n)
		if used && (string(got) != want || e != api.OK) || !used && (len(got) != 0 || e != api.ErrNone) {
			return "contents"
		}
	}
	return ""
}

func check(t *testing.T, what string, got, want api.Errno) {
	t.Helper()
	if got != want {
		t.Fatalf("%s: %d, not %d", what, got, want)
	}
}

func as(t *testing.T, what string, p *Pager, w world) {
	t.Helper()
	if d := differs(p, w); d != "" {
		t.Fatalf("%s: other %s", what, d)
	}
}

func open(t *testing.T, d *disk.Disk, cache int) *Pager {
	t.Helper()
	p, e := Open(d, cache)
	check(t, "open", e, api.OK)
	return p
}

func take(t *testing.T, p *Pager, s string) int {
	t.Helper()
	n, e := p.Take()
	check(t, "take", e, api.OK)
	if s != "" {
		check(t, "put", p.Put(n, []byte(s)), api.OK)
	}
	return n
}

func TestNew(t *testing.T) {
	d := disk.New(0)
	p := open(t, d, 4)
	as(t, "new", p, empty())
	if p.Cached() != 0 || p.Over() {
		t.Error(p.Cached(), p.Over())
	}
	check(t, "commit of nothing", p.Commit(), api.OK)
	check(t, "rollback of nothing", p.Rollback(), api.OK)
	if d.Size(0) != 0 || d.Size(1) != 0 {
		t.Error("an empty disk is written to")
	}
	n, e := p.Take()
	if n != 1 || e != api.OK {
		t.Fatal(n, e)
	}
	if b, e := p.Get(1); string(b) != content508("") || e != api.OK {
		t.Error(b, e)
	}
	check(t, "commit without room", p.Commit(), api.ErrFull)
}

func TestOpenArguments(t *testing.T) {
	for _, cache := range []int{3, 101, 0, -1, math.MaxInt, math.MinInt} {
		if p, e := Open(disk.New(9999), cache); p != nil || e != api.ErrArg {
			t.Error(cache, e)
		}
	}
	if p, e := Open(nil, 4); p != nil || e != api.ErrArg {
		t.Error(e)
	}
	for _, cache := range []int{4, 100} {
		open(t, disk.New(0), cache)
	}
	d := disk.New(100)
	d.SetFuse(0)
	d.Sync(0)
	if p, e := Open(d, 4); p != nil || e != api.ErrDisk {
		t.Error(e)
	}
}

func TestNil(t *testing.T) {
	for _, p := range []*Pager{nil, {}} {
		b, e := p.Get(1)
		check(t, "get", e, api.ErrArg)
		n, e := p.Take()
		check(t, "take", e, api.ErrArg)
		if b != nil || n != 0 {
			t.Error(b, n)
		}
		for _, e := range []api.Errno{p.Put(1, nil), p.Give(1), p.SetRoot(0, 0), p.Mark(), p.Undo(), p.Commit(), p.Rollback()} {
			check(t, "call", e, api.ErrArg)
		}
		if p.Pages() != 0 || p.Cached() != 0 || len(p.Free()) != 0 || p.Root(0) != 0 || p.Over() {
			t.Error("nil isn't zero")
		}
	}
}

func TestPages(t *testing.T) {
	p := open(t, disk.New(100000), 4)
	a, b, c := take(t, p, "one"), take(t, p, "two"), take(t, p, "")
	if a != 1 || b != 2 || c != 3 {
		t.Fatal(a, b, c)
	}
	w := empty()
	w.pages = 4
	w.used = map[int]string{1: content508("one"), 2: content508("two"), 3: content508("")}
	as(t, "three taken", p, w)
	check(t, "put less", p.Put(1, []byte("x")), api.OK)
	check(t, "put nothing", p.Put(2, nil), api.OK)
	full := bytes.Repeat([]byte{7}, 508)
	check(t, "put all", p.Put(3, full), api.OK)
	w.used = map[int]string{1: content508("x"), 2: content508(""), 3: string(full)}
	as(t, "put", p, w)
	for _, n := range []int{0, 4, -1, 9999, math.MaxInt, math.MinInt} {
		_, e := p.Get(n)
		check(t, "get", e, api.ErrNone)
		check(t, "put", p.Put(n, make([]byte, 600)), api.ErrNone)
		check(t, "give", p.Give(n), api.ErrNone)
	}
	check(t, "too much", p.Put(1, make([]byte, 509)), api.ErrLarge)
	as(t, "nothing changed", p, w)
	check(t, "give", p.Give(2), api.OK)
	delete(w.used, 2)
	w.free[2] = true
	as(t, "given", p, w)
	check(t, "given twice", p.Give(2), api.ErrNone)
	check(t, "put to a free one", p.Put(2, nil), api.ErrNone)
	if n := take(t, p, ""); n != 2 {
		t.Error("a new page is taken, though one is free:", n)
	}
	delete(w.free, 2)
	w.used[2] = content508("")
	as(t, "taken again", p, w)
	b1, _ := p.Get(1)
	b1[0] = 99
	b2 := []byte("mine")
	p.Put(2, b2)
	b2[0] = 'M'
	w.used[2] = content508("mine")
	as(t, "nothing is shared", p, w)
}

func TestRoots(t *testing.T) {
	d := disk.New(100000)
	p := open(t, d, 4)
	for i := range api.Roots {
		check(t, "set", p.SetRoot(i, 100*i+1), api.OK)
	}
	check(t, "set", p.SetRoot(3, api.MaxPages-1), api.OK)
	check(t, "set", p.SetRoot(4, 0), api.OK)
	for _, c := range [][2]int{{-1, 1}, {api.Roots, 1}, {math.MaxInt, 1}, {0, -1}, {0, api.MaxPages}, {0, math.MaxInt}, {0, math.MinInt}} {
		check(t, "wrong", p.SetRoot(c[0], c[1]), api.ErrArg)
	}
	check(t, "commit", p.Commit(), api.OK)
	w := empty()
	w.roots = [api.Roots]int{1, 101, 201, 9999, 0, 501, 601, 701}
	as(t, "set", p, w)
	as(t, "opened", open(t, d, 4), w)
	if p.Root(-1) != 0 || p.Root(api.Roots) != 0 || p.Root(math.MaxInt) != 0 {
		t.Error("others")
	}
}

// Behind a commit the file has just the pages, each with its sum, and the journal is empty.
func TestFileOfCommit(t *testing.T) {
	d := disk.New(1 << 20)
	p := open(t, d, 4)
	for range 20 {
		take(t, p, "x")
	}
	for _, n := range []int{3, 9, 20} {
		p.Give(n)
	}
	check(t, "commit", p.Commit(), api.OK)
	if d.Size(0) != 21*512 || d.Size(1) != 0 || d.Unsynced() != 0 {
		t.Fatal(d.Size(0), d.Size(1), d.Unsynced())
	}
	for n := range 21 {
		b, _ := d.Read(0, n*512, 512)
		h := fnv.New32a()
		h.Write(binary.BigEndian.AppendUint32(nil, uint32(n)))
		h.Write(b[:508])
		if binary.BigEndian.Uint32(b[508:]) != h.Sum32() {
			t.Error("the sum of page", n)
		}
		if content, e := p.Get(n); e == api.OK && !bytes.Equal(content, b[:508]) {
			t.Error("the content of page", n)
		}
	}
}

func TestBad(t *testing.T) {
	for _, cut := range []func(d *disk.Disk){
		func(d *disk.Disk) { d.Write(0, 5, []byte{0xee}) }, func(d *disk.Disk) { d.Write(0, 511, []byte{0xee}) }, func(d *disk.Disk) { d.Truncate(0, 512) }, func(d *disk.Disk) { d.Truncate(0, 513) }, func(d *disk.Disk) { d.Truncate(0, 100) },
		func(d *disk.Disk) { d.Write(0, d.Size(0), make([]byte, 512)) }, func(d *disk.Disk) { d.Write(0, d.Size(0), make([]byte, 1)) }, func(d *disk.Disk) { d.Write(0, 0, make([]byte, 512)) },
		func(d *disk.Disk) {
			// A journal that brings back what no pager wrote.
			head, _ := journal.Head(1, 4, 1)
			record, _ := journal.Record(1, 0, make([]byte, 512))
			d.Write(1, 0, slices.Concat(head, make([]byte, 64), record))
		},
		func(d *disk.Disk) {
			head, _ := journal.Head(1, 3, 0)
			d.Write(1, 0, slices.Concat(head, head))
		},
		func(d *disk.Disk) {
			head, _ := journal.Head(1, 9, 0)
			d.Write(1, 0, slices.Concat(head, head))
		},
	} {
		d := disk.New(100000)
		p := open(t, d, 4)
		for range 3 {
			take(t, p, "x")
		}
		check(t, "give", p.Give(2), api.OK)
		check(t, "commit", p.Commit(), api.OK)
		cut(d)
		before, _ := d.Read(0, 0, d.Size(0))
		journalBefore, _ := d.Read(1, 0, d.Size(1))
		if q, e := Open(d, 4); q != nil || e != api.ErrBad {
			t.Error("opened:", e)
		}
		after, _ := d.Read(0, 0, d.Size(0))
		journalAfter, _ := d.Read(1, 0, d.Size(1))
		if !bytes.Equal(before, after) || !bytes.Equal(journalBefore, journalAfter) {
			t.Error("what is bad is changed")
		}
	}
	d := disk.New(100)
	d.Write(0, 0, []byte("no pages"))
	if _, e := Open(d, 4); e != api.ErrBad {
		t.Error(e)
	}
}

func TestBadPage(t *testing.T) {
	d := disk.New(100000)
	p := open(t, d, 4)
	a, b := take(t, p, "a"), take(t, p, "b")
	check(t, "commit", p.Commit(), api.OK)
	d.Write(0, a*512+3, []byte{1})
	q := open(t, d, 4)
	got, e := q.Get(a)
	if len(got) != 0 || e != api.ErrBad {
		t.Error(got, e)
	}
	if got, e := q.Get(b); string(got) != content508("b") || e != api.OK {
		t.Error(got, e)
	}
	if q.Over() {
		t.Error("over by a bad page")
	}
	// A page at another one's place has another sum.
	other, _ := d.Read(0, b*512, 512)
	d.Write(0, a*512, other)
	if _, e := open(t, d, 4).Get(a); e != api.ErrBad {
		t.Error(e)
	}
	check(t, "put over it", q.Put(a, []byte("again")), api.OK)
	check(t, "commit", q.Commit(), api.OK)
	if got, e := open(t, d, 4).Get(a); string(got) != content508("again") || e != api.OK {
		t.Error(got, e)
	}
}

func TestMaxPages(t *testing.T) {
	p := open(t, disk.New(1<<30), 100)
	for i := 1; i < api.MaxPages; i++ {
		if n, e := p.Take(); n != i || e != api.OK {
			t.Fatal(n, e)
		}
	}
	if n, e := p.Take(); n != 0 || e != api.ErrFull {
		t.Fatal(n, e)
	}
	check(t, "give", p.Give(77), api.OK)
	if n, e := p.Take(); n != 77 || e != api.OK {
		t.Fatal(n, e)
	}
	check(t, "commit", p.Commit(), api.OK)
	if p.Pages() != api.MaxPages || p.Cached() > 100 {
		t.Error(p.Pages(), p.Cached())
	}
	if n, e := p.Take(); n != 0 || e != api.ErrFull {
		t.Fatal(n, e)
	}
}

func TestMarks(t *testing.T) {
	d := disk.New(100000)
	p := open(t, d, 4)
	check(t, "no mark", p.Undo(), api.ErrState)
	a := take(t, p, "a")
	check(t, "mark", p.Mark(), api.OK)
	p.Put(a, []byte("b"))
	b := take(t, p, "new")
	p.SetRoot(2, b)
	check(t, "undo", p.Undo(), api.OK)
	w := empty()
	w.pages, w.used[a] = 2, content508("a")
	as(t, "undone", p, w)
	check(t, "once", p.Undo(), api.ErrState)
	p.Mark()
	p.Put(a, []byte("b"))
	p.Mark()
	p.Put(a, []byte("c"))
	check(t, "undo to the later one", p.Undo(), api.OK)
	w.used[a] = content508("b")
	as(t, "undone", p, w)
	p.Mark()
	check(t, "commit", p.Commit(), api.OK)
	check(t, "gone by the commit", p.Undo(), api.ErrState)
	p.Mark()
	check(t, "rollback", p.Rollback(), api.OK)
	check(t, "gone by the rollback", p.Undo(), api.ErrState)
	p.Mark()
	check(t, "commit of nothing", p.Commit(), api.OK)
	check(t, "gone by a commit of nothing", p.Undo(), api.ErrState)
	p.Mark()
	p.Give(a)
	p.Undo()
	as(t, "undone", p, w)
}

func TestFullCommit(t *testing.T) {
	d := disk.New(3000)
	p := open(t, d, 4)
	w := empty()
	a := take(t, p, "a")
	check(t, "commit", p.Commit(), api.OK)
	w.pages, w.used[a] = 2, content508("a")
	for _, s := range []string{"b", "c"} {
		n := take(t, p, s)
		w.pages, w.used[n] = n+1, content508(s)
	}
	p.Put(a, []byte("A"))
	p.SetRoot(1, a)
	w.used[a], w.roots[1] = content508("A"), a
	d.SetRoom(1500)
	check(t, "mark", p.Mark(), api.OK)
	check(t, "commit without room", p.Commit(), api.ErrFull)
	as(t, "not committed", p, w)
	if d.Size(0) != 1024 || d.Size(1) != 0 || p.Over() {
		t.Error(d.Size(0), d.Size(1), p.Over())
	}
	check(t, "the mark is still there", p.Undo(), api.OK)
	as(t, "undone", p, w)
	d.SetRoom(100000)
	check(t, "commit", p.Commit(), api.OK)
	as(t, "committed", p, w)
	as(t, "opened", open(t, d, 4), w)
}

// Where the cache holds all, nothing is asked of the disk.
func TestNoRoomNeeded(t *testing.T) {
	p := open(t, disk.New(0), 4)
	for _, s := range []string{"a", "b", "c", "d"} {
		take(t, p, s)
	}
	for range 3 {
		for n := 1; n <= 4; n++ {
			check(t, "put", p.Put(n, []byte("x")), api.OK)
		}
	}
	if n, e := p.Take(); n != 0 || e != api.ErrFull {
		t.Error(n, e)
	}
	check(t, "mark", p.Mark(), api.OK)
	check(t, "put behind a mark", p.Put(1, nil), api.ErrFull)
	w := empty()
	w.pages = 5
	for n := 1; n <= 4; n++ {
		w.used[n] = content508("x")
	}
	as(t, "nothing changed", p, w)
	check(t, "give", p.Give(2), api.OK)
	check(t, "undo", p.Undo(), api.OK)
	as(t, "undone", p, w)
	check(t, "rollback", p.Rollback(), api.OK)
	as(t, "rolled back", p, empty())
}

func TestOver(t *testing.T) {
	d := disk.New(100000)
	p := open(t, d, 4)
	a := take(t, p, "a")
	check(t, "commit", p.Commit(), api.OK)
	p = open(t, d, 4)
	p.Put(a, []byte("b"))
	d.SetFuse(0)
	check(t, "mark", p.Mark(), api.OK)
	check(t, "commit", p.Commit(), api.ErrDisk)
	if !p.Over() {
		t.Error("isn't over")
	}
	d.Crash(nil)
	_, e := p.Take()
	for _, e := range []api.Errno{e, p.Put(a, nil), p.Put(99, make([]byte, 999)), p.Give(99), p.SetRoot(99, 99), p.Mark(), p.Undo(), p.Commit(), p.Rollback()} {
		check(t, "over", e, api.ErrDisk)
	}
	_, e = p.Get(99)
	check(t, "no such page", e, api.ErrNone)
	b, e := p.Get(a)
	if len(b) != 0 {
		t.Error("a content beside an error")
	}
	check(t, "get", e, api.ErrDisk)
	q := open(t, d, 4)
	if b, e := q.Get(a); string(b) != content508("a") || e != api.OK {
		t.Error(b, e)
	}
	// Where nothing was changed, nothing is written.
	d.SetFuse(0)
	check(t, "commit of what was read", q.Commit(), api.OK)
	d.SetFuse(-1)
	q.Put(a, []byte("c"))
	check(t, "commit", q.Commit(), api.OK)
	d.SetFuse(0)
	check(t, "commit of what was committed", q.Commit(), api.OK)
	check(t, "rollback of nothing", q.Rollback(), api.OK)
	d.SetFuse(-1)
	// Reading meets it, too.
	q = open(t, d, 4)
	d.SetFuse(0)
	d.Sync(0)
	_, e = q.Get(a)
	check(t, "get", e, api.ErrDisk)
	if !q.Over() {
		t.Error("isn't over")
	}
}

// player does the same to a pager and to what it should be.
type player struct {
	t               *testing.T
	r               *rand.Rand
	d               *disk.Disk
	p               *Pager
	cache           int
	now, last, mark world
	marked          bool
	met             bool
	committing      bool
	tight           bool // whether the disk may be full
}

// errs tells whether a call didn't do what it was to do.
func (y *player) errs(e api.Errno) bool {
	switch e {
	case api.OK:
		return false
	case api.ErrDisk:
		y.met = true
	case api.ErrFull:
		if !y.tight {
			y.t.Fatal("full")
		}
	default:
		y.t.Fatal("error", e)
	}
	return true
}

func (y *player) anyUsed() int {
	l := slices.Sorted(maps.Keys(y.now.used))
	if len(l) == 0 {
		return 0
	}
	return l[y.r.Intn(len(l))]
}

func (y *player) text() string {
	return content508(string(bytes.Repeat([]byte{byte('a' + y.r.Intn(26))}, y.r.Intn(509))))
}

func (y *player) take() {
	n, e := y.p.Take()
	if y.errs(e) {
		return
	}
	if y.now.free[n] {
		delete(y.now.free, n)
	} else if len(y.now.free) > 0 || n != y.now.pages {
		y.t.Fatal("took", n)
	} else {
		y.now.pages++
	}
	y.now.used[n] = content508("")
}

func (y *player) put(n int) {
	s := y.text()
	if n != 0 && !y.errs(y.p.Put(n, []byte(s))) {
		y.now.used[n] = s
	}
}

func (y *player) give(n int) {
	if n != 0 && !y.errs(y.p.Give(n)) {
		delete(y.now.used, n)
		y.now.free[n] = true
	}
}

func (y *player) undo() {
	if !y.marked {
		check(y.t, "undo", y.p.Undo(), api.ErrState)
		return
	}
	if !y.errs(y.p.Undo()) {
		y.now, y.marked = y.mark, false
	}
}

func (y *player) commit() {
	y.committing = true
	if !y.errs(y.p.Commit()) {
		y.last, y.marked = y.now.clone(), false
		y.settled()
	}
	y.committing = y.met
}

// settled asks whether the disk has just the pages: that is so behind each commit and rollback.
func (y *player) settled() {
	size := 512 * y.last.pages
	if y.last.pages == 1 && y.d.Size(0) == 0 {
		size = 0
	}
	if y.d.Size(0) != size || y.d.Size(1) != 0 || y.d.Unsynced() != 0 {
		y.t.Fatal("sizes", y.d.Size(0), y.d.Size(1), y.d.Unsynced(), size)
	}
}

func (y *player) step() {
	switch k := y.r.Intn(40); {
	case k < 8:
		y.take()
	case k < 20:
		y.put(y.anyUsed())
	case k < 25:
		y.give(y.anyUsed())
	case k < 27:
		i, n := y.r.Intn(api.Roots), y.r.Intn(api.MaxPages)
		if !y.errs(y.p.SetRoot(i, n)) {
			y.now.roots[i] = n
		}
	case k < 31:
		if !y.errs(y.p.Mark()) {
			y.mark, y.marked = y.now.clone(), true
		}
	case k < 34:
		y.undo()
	case k < 35:
		if !y.errs(y.p.Rollback()) {
			y.now, y.marked = y.last.clone(), false
			y.settled()
		}
	case k < 36:
		y.commit()
	default:
		if n := y.anyUsed(); n != 0 {
			b, e := y.p.Get(n)
			if !y.errs(e) && string(b) != y.now.used[n] {
				y.t.Fatal("content of", n)
			}
		}
	}
	if y.p.Cached() > y.cache {
		y.t.Fatal("cached", y.p.Cached())
	}
}

func (y *player) reopen() {
	p, e := Open(y.d, y.cache)
	if y.errs(e) {
		return
	}
	y.p, y.marked = p, false
	y.now = y.last.clone()
}

func TestAsTheModel(t *testing.T) {
	for seed := range 60 {
		r := rand.New(rand.NewSource(int64(seed)))
		d := disk.New([]int{1 << 20, 20000, 8000}[seed%3])
		y := &player{t: t, r: r, d: d, cache: 4 + r.Intn(5), now: empty(), last: empty(), tight: seed%3 != 0}
		y.reopen()
		for i := range 400 {
			y.step()
			as(t, "step", y.p, y.now)
			if i%97 == 96 {
				y.reopen()
				as(t, "opened without a crash", y.p, y.now)
			}
		}
		if y.met || y.p.Over() {
			t.Fatal("the disk doesn't fail")
		}
	}
}

func keeps(r *rand.Rand) []int {
	l := make([]int, 1+r.Intn(6))
	for i := range l {
		l[i] = []int{0, 1, 1, 0, r.Intn(256)}[r.Intn(5)]
	}
	return l
}

// recover opens the disk behind a crash, and lets more crashes fall into that.
func (y *player) recover() {
	for range 4 {
		y.d.SetFuse(y.r.Intn(6))
		p, e := Open(y.d, y.cache)
		if e == api.OK {
			y.p = p
			break
		}
		check(y.t, "open behind a crash", e, api.ErrDisk)
		y.d.Crash(keeps(y.r))
	}
	y.d.SetFuse(-1)
	y.p = open(y.t, y.d, y.cache)
	if y.committing && differs(y.p, y.now) == "" {
		y.last = y.now
	}
	y.now, y.marked, y.met, y.committing = y.last.clone(), false, false, false
	as(y.t, "behind a crash", y.p, y.now)
	as(y.t, "opened twice", open(y.t, y.d, y.cache), y.now)
}

func TestCrashes(t *testing.T) {
	both := map[string]int{}
	for seed := range 400 {
		r := rand.New(rand.NewSource(int64(1000 + seed)))
		d := disk.New(1 << 20)
		y := &player{t: t, r: r, d: d, cache: 4 + r.Intn(4), now: empty(), last: empty()}
		y.reopen()
		for range 8 {
			if r.Intn(3) > 0 {
				d.SetFuse(r.Intn(120))
			}
			for range r.Intn(150) {
				y.step()
				if y.met {
					break
				}
			}
			if !y.met && r.Intn(2) == 0 {
				d.SetFuse(r.Intn(60))
				y.commit()
			}
			old := y.last.clone()
			within := y.committing
			d.Crash(keeps(r))
			y.recover()
			if within {
				if differs(y.p, old) == "" {
					both["old"]++
				} else {
					both["new"]++
				}
			}
		}
	}
	if both["old"] == 0 {
		t.Error("no crash fell into a commit:", both)
	}
}

// Each change of one commit is the last one once.
func TestCrashInEachChange(t *testing.T) {
	for _, keep := range [][]int{nil, {1}, {0, 1}, {1, 0}, {7}, {1, 1, 0}, {255, 1}} {
		for fuse := range 400 {
			d := disk.New(1 << 20)
			p := open(t, d, 4)
			old := empty()
			for range 9 {
				n := take(t, p, "old")
				old.used[n] = content508("old")
			}
			p.Give(4)
			p.Give(8)
			delete(old.used, 4)
			delete(old.used, 8)
			old.pages, old.free = 10, map[int]bool{4: true, 8: true}
			check(t, "commit", p.Commit(), api.OK)
			d.SetFuse(fuse)
			w, e := rewrite(p, old.clone())
			if e == api.OK {
				e = p.Commit()
			}
			d.Crash(keep)
			q := open(t, d, 4)
			if e == api.OK {
				as(t, "committed", q, w)
				if fuse < 20 {
					t.Fatal("so few changes:", fuse)
				}
				break
			}
			check(t, "commit", e, api.ErrDisk)
			as(t, "behind the crash", q, old)
			as(t, "opened twice", open(t, d, 4), old)
		}
	}
}

// rewrite changes most pages, and takes new ones, more than a small cache holds.
func rewrite(p *Pager, w world) (world, api.Errno) {
	for n := 9; n > 2; n-- {
		if w.free[n] {
			continue
		}
		if e := p.Put(n, []byte("new")); e != api.OK {
			return w, e
		}
		w.used[n] = content508("new")
	}
	for range 6 {
		n, e := p.Take()
		if e != api.OK {
			return w, e
		}
		delete(w.free, n)
		w.pages = max(w.pages, n+1)
		w.used[n] = content508("")
	}
	if e := p.Give(1); e != api.OK {
		return w, e
	}
	delete(w.used, 1)
	w.free[1] = true
	return w, api.OK
}

// A crash in the middle of a transaction that is larger than the cache leads back to the commit.
func TestExample(t *testing.T) {
	d := disk.New(1 << 20)
	p := open(t, d, 4)
	n := take(t, p, "first")
	check(t, "commit", p.Commit(), api.OK)
	p.Put(n, []byte("second"))
	for range 20 {
		take(t, p, "more")
	}
	d.Crash([]int{1})
	w := empty()
	w.pages, w.used[n] = 2, content508("first")
	as(t, "behind the crash", open(t, d, 4), w)
	if d.Size(0) != 1024 || d.Size(1) != 0 {
		t.Error(d.Size(0), d.Size(1))
	}
}

// However much room there is: what isn't done for want of it has changed nothing, and is done once there is enough.
func TestAnyRoom(t *testing.T) {
	done := 0
	for room := 0; room < 16000; room += 61 {
		d := disk.New(1 << 20)
		p := open(t, d, 4)
		old := empty()
		for range 5 {
			n := take(t, p, "old")
			old.used[n], old.pages = content508("old"), n+1
		}
		check(t, "commit", p.Commit(), api.OK)
		d.SetRoom(d.Size(0) + room)
		w, e := rewriteSome(t, p, old.clone())
		as(t, "rewritten", p, w)
		check(t, "mark", p.Mark(), api.OK)
		if e == api.OK {
			e = p.Commit()
		}
		if e == api.OK {
			done++
			as(t, "committed", open(t, d, 4), w)
			if d.Left() < 0 || d.Size(0) != 512*w.pages || d.Size(1) != 0 {
				t.Fatal(d.Size(0), d.Size(1))
			}
			continue
		}
		check(t, "commit", e, api.ErrFull)
		if p.Over() {
			t.Fatal("over")
		}
		as(t, "not committed", p, w)
		check(t, "undo", p.Undo(), api.OK)
		as(t, "undone", p, w)
		d.SetRoom(1 << 20)
		check(t, "commit", p.Commit(), api.OK)
		as(t, "committed", open(t, d, 4), w)
	}
	if done < 10 || done > 250 {
		t.Error("with enough room:", done)
	}
}

// rewriteSome changes all pages, and takes new ones, as far as there is room.
func rewriteSome(t *testing.T, p *Pager, w world) (world, api.Errno) {
	for n := 1; n < 6; n++ {
		if e := p.Put(n, []byte("new")); e != api.OK {
			check(t, "put", e, api.ErrFull)
			return w, e
		}
		w.used[n] = content508("new")
	}
	for range 4 {
		n, e := p.Take()
		if e != api.OK {
			check(t, "take", e, api.ErrFull)
			return w, e
		}
		w.used[n], w.pages = content508(""), n+1
	}
	return w, api.OK
}

// The room that a commit takes is that of its journal: two heads, and a record for each page that it writes anew.
func TestRoomOfCommit(t *testing.T) {
	for _, c := range []struct{ old, changed, taken int }{{3, 1, 0}, {3, 3, 0}, {3, 0, 1}, {3, 2, 1}} {
		for _, more := range []int{-1, 0} {
			d := disk.New(1 << 20)
			p := open(t, d, 4)
			for range c.old {
				take(t, p, "old")
			}
			check(t, "commit", p.Commit(), api.OK)
			for n := range c.changed {
				check(t, "put", p.Put(n+1, nil), api.OK)
			}
			for range c.taken {
				take(t, p, "")
			}
			// The head is written anew, too.
			d.SetRoom(d.Size(0) + 128 + 576*(1+c.changed) + 512*c.taken + more)
			want := api.OK
			if more < 0 {
				want = api.ErrFull
			}
			check(t, "mark", p.Mark(), api.OK)
			size := d.Size(0)
			check(t, "commit", p.Commit(), want)
			if want == api.ErrFull {
				check(t, "undo", p.Undo(), api.OK)
				if d.Size(0) != size || d.Size(1) != 0 {
					t.Error(d.Size(0), d.Size(1))
				}
			}
		}
	}
}

// What leaves the cache first takes the journal's heads, and a page behind the head's.
func TestRoomOfLeaving(t *testing.T) {
	for _, room := range []int{0, 127, 128, 511, 640, 1023, 1024, 1151, 1152, 1663, 1664} {
		d := disk.New(room)
		p := open(t, d, 4)
		for range 4 {
			take(t, p, "x")
		}
		for more := range 2 {
			n, e := p.Take()
			if room >= 1152+512*more {
				if n != 5+more || e != api.OK {
					t.Error(room, n, e)
				}
				continue
			}
			if n != 0 || e != api.ErrFull || more == 0 && d.Size(0)+d.Size(1) != 0 {
				t.Error(room, n, e, d.Size(0), d.Size(1))
			}
		}
		check(t, "rollback", p.Rollback(), api.OK)
		if d.Size(0)+d.Size(1) != 0 {
			t.Error(d.Size(0), d.Size(1))
		}
	}
}

// What leaves the cache again and again takes no more room than it needs at a time.
func TestRoomIsUsedAgain(t *testing.T) {
	for _, undo := range []bool{false, true} {
		d := disk.New(30000)
		p := open(t, d, 4)
		w := empty()
		for range 10 {
			n := take(t, p, "old")
			w.used[n], w.pages = content508("old"), n+1
		}
		check(t, "commit", p.Commit(), api.OK)
		for i := range 100 {
			check(t, "mark", p.Mark(), api.OK)
			for n := 1; n <= 10; n++ {
				s := string(rune('a' + (i+n)%26))
				check(t, "put", p.Put(n, []byte(s)), api.OK)
				if !undo {
					w.used[n] = content508(s)
				}
			}
			if undo {
				check(t, "undo", p.Undo(), api.OK)
			}
			as(t, "round", p, w)
		}
		check(t, "commit", p.Commit(), api.OK)
		as(t, "committed", open(t, d, 4), w)
	}
}

// What is undone leaves its room to the commit.
func TestRoomOfUndone(t *testing.T) {
	d := disk.New(20000)
	p := open(t, d, 4)
	n := take(t, p, "old")
	check(t, "commit", p.Commit(), api.OK)
	check(t, "put", p.Put(n, []byte("new")), api.OK)
	check(t, "mark", p.Mark(), api.OK)
	for {
		if _, e := p.Take(); e != api.OK {
			check(t, "take", e, api.ErrFull)
			break
		}
	}
	check(t, "undo", p.Undo(), api.OK)
	check(t, "commit", p.Commit(), api.OK)
	w := empty()
	w.pages, w.used[n] = 2, content508("new")
	as(t, "committed", open(t, d, 4), w)
}

// Heads and free pages whose sums are right may still be such as no pager wrote.
func TestBadHead(t *testing.T) {
	build := func() *disk.Disk {
		d := disk.New(1 << 20)
		p := open(t, d, 4)
		for range 5 {
			take(t, p, "x")
		}
		for _, n := range []int{2, 4, 5} {
			check(t, "give", p.Give(n), api.OK)
		}
		check(t, "commit", p.Commit(), api.OK)
		open(t, d, 4)
		return d
	}
	good := state{pages: 6, free: []int{2, 4, 5}, commits: 1}
	head := func(change func(s *state)) []byte {
		s := good.clone()
		change(&s)
		return headContent(s)
	}
	with := func(b []byte, at int, c byte) []byte {
		b = slices.Clone(b)
		b[at] = c
		return b
	}
	for i, c := range []struct {
		n       int
		content []byte
		e       api.Errno
	}{
		{0, headContent(good), api.OK}, {0, head(func(s *state) { s.roots[7] = 9999 }), api.OK}, {0, head(func(s *state) { s.commits = 1 << 60 }), api.OK}, {2, freeContent(0), api.OK},
		{0, head(func(s *state) { s.roots[7] = 10000 }), api.ErrBad}, {0, head(func(s *state) { s.roots[0] = 10000 }), api.ErrBad}, {0, head(func(s *state) { s.pages = 5 }), api.ErrBad}, {0, head(func(s *state) { s.pages = 7 }), api.ErrBad}, {0, head(func(s *state) { s.pages = 0 }), api.ErrBad}, {0, head(func(s *state) { s.free = []int{1, 2, 4, 5} }), api.ErrBad}, {0, head(func(s *state) { s.free = []int{1, 2, 3, 4, 5, 5} }), api.ErrBad}, {0, head(func(s *state) { s.free = make([]int, 1<<20) }), api.ErrBad}, {0, head(func(s *state) { s.free[2] = 6 }), api.ErrBad}, {0, head(func(s *state) { s.free[2] = 1 }), api.ErrBad}, {0, head(func(s *state) { s.free = []int{5} }), api.ErrBad},
		{0, with(headContent(good), 0, 'W'), api.ErrBad}, {0, with(headContent(good), 507, 1), api.ErrBad}, {0, with(headContent(good), 60, 1), api.ErrBad}, {0, nil, api.ErrBad}, {0, make([]byte, 508), api.ErrBad},
		{5, freeContent(5), api.ErrBad}, {5, freeContent(2), api.ErrBad}, {4, freeContent(5), api.ErrBad}, {2, freeContent(3), api.ErrBad}, {5, freeContent(6), api.ErrBad}, {5, freeContent(1 << 30), api.ErrBad}, {5, freeContent(0), api.ErrBad}, {5, with(freeContent(4), 4, 1), api.ErrBad}, {5, with(freeContent(4), 507, 1), api.ErrBad}, {2, with(freeContent(0), 9, 1), api.ErrBad},
	} {
		d := build()
		check(t, "write", d.Write(0, 512*c.n, page(c.n, padded(c.content))), api.OK)
		p, e := Open(d, 4)
		if e != c.e || (p == nil) != (e != api.OK) {
			t.Error(i, e)
		}
	}
}

func TestTooManyPages(t *testing.T) {
	for _, c := range []struct {
		pages int
		e     api.Errno
	}{{api.MaxPages, api.OK}, {api.MaxPages + 1, api.ErrBad}} {
		d := disk.New(1 << 30)
		check(t, "write", d.Write(0, 0, make([]byte, 512*c.pages)), api.OK)
		check(t, "write", d.Write(0, 0, page(0, headContent(state{pages: c.pages}))), api.OK)
		if _, e := Open(d, 4); e != c.e {
			t.Error(c, e)
		}
	}
}

// A journal by layer 10's bytes leads back to what it tells, the first record of a page counting.
func TestJournal(t *testing.T) {
	d := disk.New(1 << 20)
	p := open(t, d, 4)
	n := take(t, p, "first")
	check(t, "commit", p.Commit(), api.OK)
	old, _ := d.Read(0, 0, d.Size(0))
	p.Put(n, []byte("second"))
	take(t, p, "third")
	check(t, "commit", p.Commit(), api.OK)
	now, _ := d.Read(0, 0, d.Size(0))
	b, _ := journal.Head(77, 2, 4)
	b = slices.Concat(make([]byte, 64), b)
	for _, r := range []struct {
		n    int
		data []byte
	}{{1, old[512:]}, {0, old[:512]}, {2, bytes.Repeat([]byte{7}, 512)}, {1, now[512:1024]}} {
		record, _ := journal.Record(77, r.n, r.data)
		b = append(b, record...)
	}
	check(t, "write", d.Write(1, 0, b), api.OK)
	w := empty()
	w.pages, w.used[n] = 2, content508("first")
	as(t, "restored", open(t, d, 4), w)
	if d.Size(0) != 1024 || d.Size(1) != 0 || d.Unsynced() != 0 {
		t.Error(d.Size(0), d.Size(1), d.Unsynced())
	}
	as(t, "opened twice", open(t, d, 4), w)
	// What tells nothing is nothing.
	check(t, "write", d.Write(1, 0, bytes.Repeat([]byte{7}, 900)), api.OK)
	as(t, "junk", open(t, d, 4), w)
	if d.Size(1) != 0 {
		t.Error("junk is left")
	}
}
