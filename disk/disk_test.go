package disk

import (
	"bytes"
	"math"
	"math/rand"
	"strings"
	"testing"

	"wainscot/api"
)

func check(t *testing.T, what string, got, want api.Errno) {
	t.Helper()
	if got != want {
		t.Errorf("%s: %d, not %d", what, got, want)
	}
}

// holds tells whether a file has just these bytes.
func holds(t *testing.T, d *Disk, file int, want string) {
	t.Helper()
	got, e := d.Read(file, 0, d.Size(file))
	if string(got) != want || e != api.OK {
		t.Errorf("file %d: %q %d, not %q", file, got, e, want)
	}
}

func TestFiles(t *testing.T) {
	d := New(10)
	if d.Size(0) != 0 || d.Size(1) != 0 || d.Left() != 10 || d.Down() || d.Unsynced() != 0 {
		t.Error("a new disk isn't empty")
	}
	check(t, "write", d.Write(0, 0, []byte("abc")), api.OK)
	check(t, "write within", d.Write(0, 1, []byte("XY")), api.OK)
	check(t, "write over the end", d.Write(0, 2, []byte("123")), api.OK)
	check(t, "write at the end", d.Write(0, 5, []byte("z")), api.OK)
	check(t, "write to 1", d.Write(1, 0, []byte("q")), api.OK)
	holds(t, d, 0, "aX123z")
	holds(t, d, 1, "q")
	if d.Size(0) != 6 || d.Size(1) != 1 || d.Left() != 3 || d.Size(2) != 0 || d.Size(-1) != 0 {
		t.Error(d.Size(0), d.Size(1), d.Left())
	}
	if b, e := d.Read(0, 2, 3); string(b) != "123" || e != api.OK {
		t.Error(b, e)
	}
	if b, e := d.Read(0, 6, 0); len(b) != 0 || e != api.OK {
		t.Error(b, e)
	}
	check(t, "truncate", d.Truncate(0, 2), api.OK)
	holds(t, d, 0, "aX")
	check(t, "truncate to all", d.Truncate(0, 2), api.OK)
	check(t, "truncate to nothing", d.Truncate(1, 0), api.OK)
	if d.Left() != 8 {
		t.Error(d.Left())
	}
}

func TestWrongArguments(t *testing.T) {
	d := New(100)
	d.Write(0, 0, []byte("abc"))
	for _, file := range []int{-1, 2, math.MaxInt, math.MinInt} {
		_, e := d.Read(file, 0, 0)
		check(t, "read", e, api.ErrArg)
		check(t, "write", d.Write(file, 0, nil), api.ErrArg)
		check(t, "sync", d.Sync(file), api.ErrArg)
		check(t, "truncate", d.Truncate(file, 0), api.ErrArg)
	}
	for _, c := range [][2]int{{-1, 0}, {0, -1}, {0, 4}, {3, 1}, {1, 3}, {4, 0}, {math.MaxInt, math.MaxInt}, {1, math.MaxInt}, {math.MinInt, 1}, {2, math.MinInt}} {
		if b, e := d.Read(0, c[0], c[1]); len(b) != 0 || e != api.ErrArg {
			t.Error(c, b, e)
		}
	}
	for _, at := range []int{-1, 4, math.MaxInt, math.MinInt} {
		check(t, "write", d.Write(0, at, []byte("x")), api.ErrArg)
		check(t, "write nothing", d.Write(0, at, nil), api.ErrArg)
		check(t, "truncate", d.Truncate(0, at), api.ErrArg)
	}
	holds(t, d, 0, "abc")
}

func TestNil(t *testing.T) {
	var d *Disk
	if d.Size(0) != 0 || d.Left() != 0 || d.Down() || d.Unsynced() != 0 {
		t.Error("nil isn't zero")
	}
	if b, e := d.Read(0, 0, 0); b != nil || e != api.ErrArg {
		t.Error(b, e)
	}
	check(t, "write", d.Write(0, 0, nil), api.ErrArg)
	check(t, "sync", d.Sync(0), api.ErrArg)
	check(t, "truncate", d.Truncate(0, 0), api.ErrArg)
	d.SetFuse(1)
	d.SetRoom(1)
	d.Crash([]int{1})
}

func TestRoom(t *testing.T) {
	d := New(4)
	check(t, "file 1", d.Write(1, 0, []byte("ab")), api.OK)
	check(t, "too much", d.Write(0, 0, []byte("abc")), api.ErrFull)
	check(t, "just enough", d.Write(0, 0, []byte("ab")), api.OK)
	check(t, "one more", d.Write(0, 2, []byte("c")), api.ErrFull)
	check(t, "one more, from within", d.Write(0, 1, []byte("bc")), api.ErrFull)
	check(t, "one more in the other file", d.Write(1, 2, []byte("c")), api.ErrFull)
	check(t, "nothing more", d.Write(0, 2, nil), api.OK)
	check(t, "above the size", d.Write(0, 3, []byte("abc")), api.ErrArg)
	d.SetRoom(1)
	if d.Left() != 0 {
		t.Error(d.Left())
	}
	check(t, "without growing", d.Write(0, 0, []byte("xy")), api.OK)
	check(t, "growing", d.Write(0, 1, []byte("yz")), api.ErrFull)
	holds(t, d, 0, "xy")
	d.SetRoom(9)
	if d.Left() != 5 {
		t.Error(d.Left())
	}
	check(t, "in a greater room", d.Write(0, 2, []byte("12345")), api.OK)
	for _, n := range []int{-1, math.MinInt} {
		if New(n).Left() != 0 || New(n).Write(0, 0, []byte("a")) != api.ErrFull || New(n).Write(0, 0, nil) != api.OK {
			t.Error("a room below 0")
		}
	}
	d = New(5)
	d.SetRoom(-3)
	if d.Left() != 0 || d.Write(0, 0, []byte("a")) != api.ErrFull {
		t.Error("a room set below 0")
	}
}

func TestFuse(t *testing.T) {
	for n := range 7 {
		d := New(100)
		d.SetFuse(n)
		changes := []func() api.Errno{
			func() api.Errno { return d.Write(0, 0, []byte("ab")) }, func() api.Errno { return d.Sync(0) }, func() api.Errno { return d.Write(1, 0, nil) },
			func() api.Errno { return d.Sync(1) }, func() api.Errno { return d.Truncate(0, 1) }, func() api.Errno { return d.Write(0, 1, []byte("z")) },
		}
		for i, change := range changes {
			// What wouldn't be done is no change.
			if i <= n {
				check(t, "wrong place", d.Write(0, 50, nil), api.ErrArg)
				check(t, "full", d.Write(1, 0, make([]byte, 200)), api.ErrFull)
				check(t, "wrong size", d.Truncate(0, 50), api.ErrArg)
				check(t, "no file", d.Sync(2), api.ErrArg)
				d.Read(0, 0, 0)
			}
			want := api.OK
			if i >= n {
				want = api.ErrDisk
			}
			check(t, "change", change(), want)
			if d.Down() != (i >= n) {
				t.Error(n, i, d.Down())
			}
		}
		size := []int{0, 2, 2, 2, 2, 1, 2}[n]
		if d.Size(0) != size {
			t.Error(n, d.Size(0))
		}
	}
}

func TestDown(t *testing.T) {
	d := New(100)
	d.Write(0, 0, []byte("ab"))
	d.SetFuse(0)
	check(t, "write", d.Write(0, 0, []byte("x")), api.ErrDisk)
	d.SetFuse(-1)
	_, e := d.Read(0, 0, 1)
	check(t, "read", e, api.ErrDisk)
	_, e = d.Read(0, 50, 1)
	check(t, "read from a wrong place", e, api.ErrDisk)
	_, e = d.Read(2, 0, 1)
	check(t, "read of no file", e, api.ErrArg)
	check(t, "write to a wrong place", d.Write(0, 50, nil), api.ErrDisk)
	check(t, "write of too much", d.Write(0, 0, make([]byte, 200)), api.ErrDisk)
	check(t, "sync", d.Sync(1), api.ErrDisk)
	check(t, "truncate", d.Truncate(0, 50), api.ErrDisk)
	check(t, "sync of no file", d.Sync(-1), api.ErrArg)
	if !d.Down() || d.Size(0) != 2 || d.Left() != 98 || d.Unsynced() != 1 {
		t.Error(d.Down(), d.Size(0), d.Left(), d.Unsynced())
	}
	d.Crash([]int{1})
	holds(t, d, 0, "ab")
	d.SetFuse(0)
	d.Crash(nil)
	check(t, "the fuse is gone", d.Write(0, 0, []byte("y")), api.OK)
	d.SetFuse(1)
	d.SetFuse(-5)
	for range 5 {
		check(t, "no fuse", d.Sync(0), api.OK)
	}
}

func TestUnsynced(t *testing.T) {
	d := New(10000)
	for i, c := range []struct {
		do   func()
		want int
	}{
		{func() { d.Write(0, 0, nil) }, 0},
		{func() { d.Write(0, 0, make([]byte, 64)) }, 1},
		{func() { d.Write(0, 64, make([]byte, 1)) }, 2},
		{func() { d.Sync(1) }, 2},
		{func() { d.Sync(0) }, 0},
		{func() { d.Write(0, 65, make([]byte, 64)) }, 2},
		{func() { d.Write(1, 0, make([]byte, 129)) }, 5},
		{func() { d.Sync(0) }, 3},
		{func() { d.Write(0, 63, make([]byte, 2)) }, 5},
		{func() { d.Write(0, 0, nil) }, 5},
		{func() { d.Truncate(0, 129) }, 3},
		{func() { d.Truncate(1, 1) }, 0},
		{func() { d.Write(0, 129, nil) }, 0},
		{func() { d.Write(0, 0, make([]byte, 129)) }, 3},
		{func() { d.Crash(nil) }, 0},
	} {
		c.do()
		if d.Unsynced() != c.want {
			t.Error(i, d.Unsynced())
		}
	}
}

func TestCrash(t *testing.T) {
	s := func(c string) string { return strings.Repeat(c, 64) }
	for i, c := range []struct {
		do   func(d *Disk)
		keep []int
		want string
	}{
		{func(d *Disk) { d.Write(0, 0, []byte("ab")) }, []int{0}, ""},
		{func(d *Disk) { d.Write(0, 0, []byte("ab")) }, nil, ""},
		{func(d *Disk) { d.Write(0, 0, []byte("ab")) }, []int{1}, "ab"},
		{func(d *Disk) { d.Write(0, 0, []byte("ab")) }, []int{7}, "\x07\x07"},
		{func(d *Disk) { d.Write(0, 0, []byte("ab")); d.Sync(0); d.Write(0, 0, []byte("x")) }, []int{7}, "\x07\x07"},
		{func(d *Disk) { d.Write(0, 0, []byte("ab")); d.Sync(0); d.Write(0, 0, []byte("x")) }, []int{0}, "ab"},
		{func(d *Disk) { d.Write(0, 0, []byte("ab")); d.Sync(0); d.Write(0, 1, []byte("xyz")) }, []int{0}, "ab"},
		{func(d *Disk) { d.Write(0, 0, []byte("ab")); d.Sync(0); d.Write(0, 2, []byte("xyz")) }, []int{257}, "\x01\x01\x01\x01\x01"},
		{func(d *Disk) { d.Write(0, 0, []byte("ab")) }, []int{256}, "\x00\x00"},
		{func(d *Disk) { d.Write(0, 0, []byte("ab")) }, []int{-1}, "\xff\xff"},
		{func(d *Disk) { d.Write(0, 0, []byte("ab")) }, []int{math.MinInt + 5}, "\x05\x05"},
		{func(d *Disk) { d.Write(0, 0, []byte("ab")); d.Sync(0); d.Truncate(0, 1) }, []int{0}, "a"},
		{func(d *Disk) { d.Write(0, 0, []byte("abc")); d.Truncate(0, 2) }, []int{0}, "ab"},
		{func(d *Disk) { d.Write(0, 0, []byte("ab")); d.Truncate(0, 2); d.Write(0, 2, []byte("c")) }, []int{0}, "ab"},
		{func(d *Disk) { d.Write(0, 0, []byte(s("a")+s("b")+s("c"))) }, []int{0, 0, 1}, s("\x00") + s("\x00") + s("c")},
		{func(d *Disk) { d.Write(0, 0, []byte(s("a")+s("b")+s("c"))) }, []int{0, 1, 0}, s("\x00") + s("b")},
		{func(d *Disk) { d.Write(0, 0, []byte(s("a")+s("b")+"c")) }, []int{1, 9}, s("a") + s("\x09") + "c"},
		{func(d *Disk) { d.Write(0, 0, []byte(s("a")+s("b")+"c")) }, []int{1, 0}, s("a") + s("\x00") + "c"},
		{func(d *Disk) {
			d.Write(0, 0, []byte(s("a")+"bb"))
			d.Sync(0)
			d.Write(0, 65, []byte(s("x")+s("y")))
		}, []int{0, 0, 1}, s("a") + "bb" + strings.Repeat("\x00", 62) + s("\x00") + "y"},
		{func(d *Disk) { d.Write(0, 0, []byte(s("a")+s("b"))); d.Sync(0); d.Write(0, 64, []byte("x")) }, []int{5}, s("a") + s("\x05")},
		{func(d *Disk) {
			d.Write(0, 0, []byte(s("a")+s("b")))
			d.Sync(0)
			d.Write(0, 0, []byte("x"))
			d.Write(0, 64, []byte("y"))
		}, []int{0, 1}, s("a") + "y" + s("b")[1:]},
	} {
		d := New(1000)
		c.do(d)
		d.Crash(c.keep)
		holds(t, d, 0, c.want)
		if d.Unsynced() != 0 {
			t.Error(i, d.Unsynced())
		}
		// What a crash left is synced: another one changes nothing.
		d.Crash([]int{0, 9})
		holds(t, d, 0, c.want)
	}
}

func TestCrashTakesNumbersInTurn(t *testing.T) {
	d := New(10000)
	d.Write(1, 0, bytes.Repeat([]byte("b"), 130))
	d.Write(0, 0, bytes.Repeat([]byte("a"), 130))
	d.Crash([]int{2, 3})
	s := func(n byte, k int) string { return string(bytes.Repeat([]byte{n}, k)) }
	holds(t, d, 0, s(2, 64)+s(3, 64)+s(2, 2))
	holds(t, d, 1, s(3, 64)+s(2, 64)+s(3, 2))
}

func TestNothingIsShared(t *testing.T) {
	d := New(100)
	b := []byte("abc")
	d.Write(0, 0, b)
	b[0] = 'x'
	holds(t, d, 0, "abc")
	got, _ := d.Read(0, 0, 2)
	got[0] = 'y'
	_ = append(got, 'z')
	holds(t, d, 0, "abc")
}

// model is a disk told more simply: whole copies of what is synced.
type model struct {
	now, synced [2][]byte
	unsynced    [2][]bool
}

func (m *model) write(file, at int, b []byte) {
	for i, c := range b {
		if at+i < len(m.now[file]) {
			m.now[file][at+i] = c
		} else {
			m.now[file] = append(m.now[file], c)
		}
		for len(m.unsynced[file]) <= (at+i)/64 {
			m.unsynced[file] = append(m.unsynced[file], false)
		}
		m.unsynced[file][(at+i)/64] = true
	}
}

func (m *model) sync(file int) {
	m.synced[file] = bytes.Clone(m.now[file])
	m.unsynced[file] = nil
}

func (m *model) crash(keep []int) {
	n := 0
	for f := range 2 {
		size := len(m.synced[f])
		kept := map[int]int{}
		for s, u := range m.unsynced[f] {
			if !u {
				continue
			}
			kept[s] = keep[n%len(keep)]
			n++
			if kept[s] != 0 {
				size = max(size, min(64*s+64, len(m.now[f])))
			}
		}
		b := make([]byte, size)
		for i := range b {
			k, u := kept[i/64]
			switch {
			case !u || k == 1:
				b[i] = m.now[f][i]
			case k != 0:
				b[i] = byte(k)
			case i < len(m.synced[f]):
				b[i] = m.synced[f][i]
			}
		}
		m.now[f] = b
		m.sync(f)
	}
}

func TestAsTheModel(t *testing.T) {
	r := rand.New(rand.NewSource(9))
	for range 300 {
		d, m := New(1<<20), &model{}
		for range 60 {
			f := r.Intn(2)
			switch k := r.Intn(20); {
			case k < 12:
				at := r.Intn(d.Size(f) + 1)
				b := bytes.Repeat([]byte{byte(r.Intn(256))}, r.Intn(200))
				check(t, "write", d.Write(f, at, b), api.OK)
				m.write(f, at, b)
			case k < 15:
				check(t, "sync", d.Sync(f), api.OK)
				m.sync(f)
			case k < 17:
				n := r.Intn(d.Size(f) + 1)
				check(t, "truncate", d.Truncate(f, n), api.OK)
				m.now[f] = m.now[f][:n]
				m.sync(f)
			default:
				keep := []int{r.Intn(4), r.Intn(3), r.Intn(300)}[:1+r.Intn(3)]
				d.Crash(keep)
				m.crash(keep)
			}
			holds(t, d, 0, string(m.now[0]))
			holds(t, d, 1, string(m.now[1]))
		}
	}
}
