package journal

import (
	"bytes"
	"encoding/binary"
	"hash/fnv"
	"math"
	"slices"
	"testing"

	"wainscot/api"
)

func sumOf(b []byte) uint32 {
	h := fnv.New32a()
	h.Write(b)
	return h.Sum32()
}

func page(c byte) []byte { return bytes.Repeat([]byte{c}, api.PageSize) }

// headOf and recordOf are the bytes as the chapter tells them.
func headOf(salt uint64, pages, records int) []byte {
	b := []byte("wainscot")
	b = binary.BigEndian.AppendUint64(b, salt)
	b = binary.BigEndian.AppendUint32(b, uint32(pages))
	b = binary.BigEndian.AppendUint32(b, uint32(records))
	b = binary.BigEndian.AppendUint32(b, sumOf(b))
	return append(b, make([]byte, 64-len(b))...)
}

func recordOf(salt uint64, number int, data []byte) []byte {
	b := binary.BigEndian.AppendUint64(nil, salt)
	b = binary.BigEndian.AppendUint32(b, uint32(number))
	b = append(b, data...)
	b = binary.BigEndian.AppendUint32(b, sumOf(b))[8:]
	return append(b, make([]byte, 576-len(b))...)
}

func TestSum(t *testing.T) {
	if Sum(nil) != 2166136261 || Sum([]byte("a")) != 0xe40c292c {
		t.Error(Sum(nil), Sum([]byte("a")))
	}
	for i := range 50 {
		b := bytes.Repeat([]byte{byte(7 * i), 255, 0}, i)
		if Sum(b) != sumOf(b) {
			t.Error(i)
		}
	}
}

func TestHead(t *testing.T) {
	for _, salt := range []uint64{0, 1, 0x0102030405060708, math.MaxUint64} {
		for _, pages := range []int{0, 1, 300, api.MaxPages} {
			for _, records := range []int{0, 1, 300, api.MaxPages} {
				if b, e := Head(salt, pages, records); !bytes.Equal(b, headOf(salt, pages, records)) || e != api.OK {
					t.Errorf("%x %d %d: %x %d", salt, pages, records, b, e)
				}
			}
		}
	}
	for _, n := range []int{-1, api.MaxPages + 1, math.MaxInt, math.MinInt, 1 << 32} {
		if b, e := Head(1, n, 1); len(b) != 0 || e != api.ErrArg {
			t.Error(n, b, e)
		}
		if b, e := Head(1, 1, n); len(b) != 0 || e != api.ErrArg {
			t.Error(n, b, e)
		}
		if b, e := Record(1, n, page(1)); len(b) != 0 || e != api.ErrArg {
			t.Error(n, b, e)
		}
	}
}

func TestRecord(t *testing.T) {
	for _, salt := range []uint64{0, 0x0102030405060708, math.MaxUint64} {
		for _, number := range []int{0, 1, 513, api.MaxPages} {
			data := page(byte(number))
			data[0], data[511] = 1, 2
			if b, e := Record(salt, number, data); !bytes.Equal(b, recordOf(salt, number, data)) || e != api.OK {
				t.Errorf("%x %d: %x %d", salt, number, b, e)
			}
		}
	}
	for _, size := range []int{0, 1, 511, 513, 508} {
		if b, e := Record(1, 1, make([]byte, size)); len(b) != 0 || e != api.ErrArg {
			t.Error(size, b, e)
		}
	}
	data := page(1)
	b, _ := Record(1, 1, data)
	data[5] = 9
	if !bytes.Equal(b, recordOf(1, 1, page(1))) {
		t.Error("the record follows the data")
	}
}

func join(parts ...[]byte) []byte { return bytes.Join(parts, nil) }

// same tells whether a journal tells just this.
func same(t *testing.T, what string, b []byte, salt uint64, pages int, numbers ...int) {
	t.Helper()
	f, ok := Read(b)
	if !ok || f.Salt != salt || f.Pages != pages || !slices.Equal(f.Numbers, numbers) || len(f.Data) != len(numbers) {
		t.Error(what, ok, f.Salt, f.Pages, f.Numbers)
		return
	}
	for i, n := range numbers {
		if !bytes.Equal(f.Data[i], page(byte(n))) {
			t.Error(what, "data", i)
		}
	}
}

func nothing(t *testing.T, what string, b []byte) {
	t.Helper()
	if f, ok := Read(b); ok || f.Salt != 0 || f.Pages != 0 || len(f.Numbers) != 0 || len(f.Data) != 0 {
		t.Error(what, ok, f.Salt, f.Pages, f.Numbers)
	}
}

func TestRead(t *testing.T) {
	none, junk := make([]byte, 64), bytes.Repeat([]byte{7}, 64)
	r := func(salt uint64, n int) []byte { return recordOf(salt, n, page(byte(n))) }
	same(t, "one head", join(headOf(5, 9, 2), none, r(5, 3), r(5, 4)), 5, 9, 3, 4)
	same(t, "junk beside it", join(headOf(5, 9, 1), junk, r(5, 3)), 5, 9, 3)
	same(t, "the second head", join(none, headOf(5, 9, 1), r(5, 3)), 5, 9, 3)
	same(t, "junk ahead", join(junk, headOf(5, 9, 0)), 5, 9)
	same(t, "more behind it", join(headOf(5, 9, 1), none, r(5, 3), r(5, 4), junk), 5, 9, 3)
	same(t, "half a record behind it", join(headOf(5, 9, 1), none, r(5, 3), r(5, 4)[:300]), 5, 9, 3)
	same(t, "more in the first", join(headOf(5, 9, 2), headOf(5, 8, 1), r(5, 3), r(5, 3)), 5, 9, 3, 3)
	same(t, "more in the second", join(headOf(5, 9, 1), headOf(6, 8, 2), r(6, 0), r(6, 1)), 6, 8, 0, 1)
	same(t, "as many in both", join(headOf(5, 9, 1), headOf(6, 8, 1), r(5, 3)), 5, 9, 3)
	same(t, "none in both", join(headOf(5, 9, 0), headOf(6, 8, 0)), 5, 9)
	same(t, "the greatest numbers", join(headOf(math.MaxUint64, api.MaxPages, 1), none, r(math.MaxUint64, api.MaxPages)), math.MaxUint64, api.MaxPages, api.MaxPages)
	nothing(t, "no bytes", nil)
	nothing(t, "noughts", make([]byte, 1000))
	nothing(t, "junk", join(junk, junk, r(5, 3)))
	nothing(t, "too few records", join(headOf(5, 9, 2), none, r(5, 3)))
	nothing(t, "a record is cut", join(headOf(5, 9, 1), none, r(5, 3)[:575]))
	nothing(t, "a head is cut", headOf(5, 9, 0)[:63])
	nothing(t, "no room for records", headOf(5, 9, 1))
	nothing(t, "another salt", join(headOf(5, 9, 1), none, r(6, 3)))
	nothing(t, "as many in both, the first's aren't there", join(headOf(5, 9, 1), headOf(6, 8, 1), r(6, 3)))
	nothing(t, "the greater one's aren't there", join(headOf(5, 9, 1), headOf(5, 9, 2), r(5, 3)))
	nothing(t, "the second record is junk", join(headOf(5, 9, 2), none, r(5, 3), bytes.Repeat([]byte{7}, 576)))
	nothing(t, "too many pages", join(headOf(5, api.MaxPages+1, 0), none))
	nothing(t, "too many records", join(headOf(5, 1, api.MaxPages+1), none, bytes.Repeat(r(5, 3), api.MaxPages+1)))
	nothing(t, "too great a number", join(headOf(5, 9, 1), none, recordOf(5, api.MaxPages+1, page(1))))
	nothing(t, "heads further behind", join(none, none, headOf(5, 9, 0)))
	nothing(t, "a head at a wrong place", join(none[:32], headOf(5, 9, 0), none))
}

// Each bit of a head and of a record counts.
func TestReadChanged(t *testing.T) {
	good := join(headOf(5, 9, 1), make([]byte, 64), recordOf(5, 3, page(3)))
	for i := range good {
		if i >= 64 && i < 128 {
			continue
		}
		for _, bit := range []byte{1, 0x80} {
			bad := slices.Clone(good)
			bad[i] ^= bit
			nothing(t, "changed", bad)
		}
	}
}

func TestNothingIsShared(t *testing.T) {
	b := join(headOf(5, 9, 2), make([]byte, 64), recordOf(5, 3, page(3)), recordOf(5, 4, page(4)))
	f, _ := Read(b)
	clear(b)
	_ = append(f.Data[0], 9)
	if !bytes.Equal(f.Data[0], page(3)) || !bytes.Equal(f.Data[1], page(4)) {
		t.Error("the data follows the bytes")
	}
}
